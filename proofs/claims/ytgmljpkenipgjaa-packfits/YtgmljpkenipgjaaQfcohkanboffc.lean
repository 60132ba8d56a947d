import Derived.Test.YtgmljpkenipgjaaQnkkoackfpefk
import Derived.Deep.CutRange
import Derived.Test.YtgmljpkenipgjaaQbdfjpalhgigm
import Derived.Test.YtgmljpkenipgjaaQbcofglccpmfn

/-
  pack: the library's stable sort: where a merge is cut about the middle, pure.
-/
namespace Go.Proofs.Ytgmljpkenipgjaa.Pk
open Go.Sort Go.RowKit Go.Shelf

/-- Where the place of the cut is looked for. -/
structure MidOK (a m b mid lo hi : Nat) : Prop where
  al : a ≤ lo
  lh : lo ≤ hi
  hm : hi ≤ m
  hd : hi ≤ mid
  pb : mid + m ≤ b + lo
  lb : lo = a ∨ mid + m = b + lo
  he : hi = m ∨ hi = mid

theorem le_sorted {lt : Nat → Nat → Bool} (hS : SWO lt) {a b x y : Nat} {d : Array Nat} (h : SortedIn lt a b d) (hx : a ≤ x) (hxy : x ≤ y) (hy : y < b) : lt d[y]! d[x]! = false := by
  by_cases e : x = y
  · rw [e]; exact hS.irrefl _
  · exact h x y hx (by omega) hy

theorem cut_of {lt : Nat → Nat → Bool} (hS : SWO lt) {a m b mid lo hi s : Nat} {d : Array Nat} (h : MidOK a m b mid lo hi) (h1 : SortedIn lt a m d) (h2 : SortedIn lt m b d) (hls : lo ≤ s) (hsh : s ≤ hi) (HB : ∀ c, lo ≤ c → c < s → lt d[mid + m - 1 - c]! d[c]! = false) (HA : ∀ c, s ≤ c → c < hi → lt d[mid + m - 1 - c]! d[c]! = true) : CutAt lt a m b mid s d := by
  obtain ⟨c1, c2, c3, c4, c5, c6, c7⟩ := h
  refine ⟨by omega, by omega, by omega, by omega, by omega, fun x y hx hxs hy hyb => ?_, fun x y hx hxm hy hye => ?_⟩
  · have hsl : lo < s := by omega
    have h3 := HB (s - 1) (by omega) (by omega)
    rw [show mid + m - 1 - (s - 1) = mid + m - s by omega] at h3
    exact hS.ntrans _ _ _ (le_sorted hS h2 (by omega) hy hyb) (hS.ntrans _ _ _ h3 (le_sorted hS h1 hx (by omega) (by omega)))
  · have hsl : s < hi := by omega
    have h3 := HA s (Nat.le_refl _) hsl
    cases hxy : lt d[y]! d[x]! with
    | true => rfl
    | false =>
      have h4 := hS.ntrans _ _ _ (le_sorted hS h2 hy (show y ≤ mid + m - 1 - s by omega) (by omega)) (hS.ntrans _ _ _ hxy (le_sorted hS h1 (by omega) hx hxm))
      rw [h4] at h3
      cases h3
theorem mid_up {lt : Nat → Nat → Bool} (hS : SWO lt) {a m b mid lo hi h : Nat} {d : Array Nat} (hk : MidOK a m b mid lo hi) (h1 : SortedIn lt a m d) (h2 : SortedIn lt m b d) (hh : h < hi) (hl : lt d[mid + m - 1 - h]! d[h]! = false) : ∀ c, lo ≤ c → c < h + 1 → lt d[mid + m - 1 - c]! d[c]! = false := fun c ha hb => by
  obtain ⟨c1, c2, c3, c4, c5, c6, c7⟩ := hk
  exact hS.ntrans _ _ _ (le_sorted hS h2 (by omega) (show mid + m - 1 - h ≤ mid + m - 1 - c by omega) (by omega)) (hS.ntrans _ _ _ hl (le_sorted hS h1 (by omega) (by omega) (by omega)))
theorem mid_down {lt : Nat → Nat → Bool} (hS : SWO lt) {a m b mid lo hi h : Nat} {d : Array Nat} (hk : MidOK a m b mid lo hi) (h1 : SortedIn lt a m d) (h2 : SortedIn lt m b d) (hh : lo ≤ h) (hl : lt d[mid + m - 1 - h]! d[h]! = true) : ∀ c, h ≤ c → c < hi → lt d[mid + m - 1 - c]! d[c]! = true := fun c ha hb => by
  obtain ⟨c1, c2, c3, c4, c5, c6, c7⟩ := hk
  cases hx : lt d[mid + m - 1 - c]! d[c]! with
  | true => rfl
  | false =>
    have h4 := hS.ntrans _ _ _ (le_sorted hS h2 (by omega) (show mid + m - 1 - c ≤ mid + m - 1 - h by omega) (by omega)) (hS.ntrans _ _ _ hx (le_sorted hS h1 (by omega) ha (by omega)))
    rw [h4] at hl
    cases hl

/-- A merge's contract, of stretches of at most K. -/
def MergeOk (enc : Nat → Value) (cf : Nat → Nat → Int) (g : Nat) (cb : Array Value) (w : World) (blk off cap N K : Nat) : Prop := ∀ (a m b q : Nat) (d : Array Nat), b - a ≤ K → d.size = N → a < m → m < b → b ≤ N → SortedIn (ltOf cf) a m d → SortedIn (ltOf cf) m b d → Stb (ltOf cf) d →
    Calls Try.prog 60 #[.slice (some ⟨blk, off, none⟩) N cap, .int .i64 a, .int .i64 m, .int .i64 b, .func (.func g) #[] cb] ((putRow enc w blk off d).drewN q) fun e y => e = .returned (.tuple #[]) ∧ ∃ d', Merged (ltOf cf) a b d d' ∧ ∃ q', y = (putRow enc w blk off d').drewN q'

end Go.Proofs.Ytgmljpkenipgjaa.Pk

/-
  pack: the library's stable sort: a merge of two stretches, cut about the middle.
-/
namespace Go.Proofs.Ytgmljpkenipgjaa.Pk
open Go.Sort Go.RowKit Go.Shelf

set_option maxHeartbeats 8000000 in
set_option maxRecDepth 1000000 in
theorem merge_mid (enc : Nat → Value) (hO : OneCell enc) (cf : Nat → Nat → Int) (hS : SWO (ltOf cf)) (g : Nat) (cb : Array Value) (eg : ∀ args w, (callFunc g args).run Try.prog w = .ok (.enter g args) w) (w : World) (blk off cap a m b N K q : Nat) (d : Array Nat) (hcmp : CmpOk enc cf g cb w blk off N) (hH : Holds enc w blk off d) (hN : d.size = N) (ham : a + 1 < m) (hmb : m + 1 < b) (hb : b ≤ N) (hsz : N < 4611686018427387904) (h1 : SortedIn (ltOf cf) a m d) (h2 : SortedIn (ltOf cf) m b d) (h3 : Stb (ltOf cf) d) (hK : b - a ≤ K + 1) (ih : MergeOk enc cf g cb w blk off cap N K) :
    Calls Try.prog 60 #[.slice (some ⟨blk, off, none⟩) N cap, .int .i64 a, .int .i64 m, .int .i64 b, .func (.func g) #[] cb] ((putRow enc w blk off d).drewN q) fun e y => e = .returned (.tuple #[]) ∧ ∃ d', Merged (ltOf cf) a b d d' ∧ ∃ q', y = (putRow enc w blk off d').drewN q' := by
  have hcl0 := hO.cells
  simp only [Value.cells] at hcl0
  have hst := hO.store Try.prog
  have mixed : Try.prog.follows .mixedOrders = true := by kernel_rfl
  have HH : Hid (Holds enc w blk off d) := hH
  have HC := show Aside _ from hcmp
  have HIH := show Aside _ from ih
  have HS1 : Hid (SortedIn (ltOf cf) a m d) := h1
  have HS2 : Hid (SortedIn (ltOf cf) m b d) := h2
  have HS3 : Hid (Stb (ltOf cf) d) := h3
  have HSW : Hid (SWO (ltOf cf)) := hS
  clear hcmp hH h1 h2 h3 hS ih
  obtain ⟨ma, hma⟩ : ∃ x, x = m - a := ⟨_, rfl⟩
  have w1 : IntKind.i64.wrap ((m : Int) - (a : Int)) = (ma : Int) := by rw [IntKind.wrap_i64]; omega
  have w1n : ¬ ((ma : Int) = 1) := by omega
  have w1d : ((ma : Int) == 1) = false := by simpa using w1n
  obtain ⟨mb, hbm⟩ : ∃ x, x = b - m := ⟨_, rfl⟩
  have w2 : IntKind.i64.wrap ((b : Int) - (m : Int)) = (mb : Int) := by rw [IntKind.wrap_i64]; omega
  have w2n : ¬ ((mb : Int) = 1) := by omega
  have w2d : ((mb : Int) == 1) = false := by simpa using w2n
  obtain ⟨mid, hmid⟩ : ∃ x, x = (a + b) / 2 := ⟨_, rfl⟩
  have wm : ((a : Int) + (b : Int)) / 2 = (mid : Int) := by omega
  obtain ⟨n, hn⟩ : ∃ x, x = mid + m := ⟨_, rfl⟩
  have wn : IntKind.i64.wrap ((mid : Int) + (m : Int)) = (n : Int) := by rw [IntKind.wrap_i64]; omega
  obtain ⟨p, hp⟩ : ∃ x, x = n - 1 := ⟨_, rfl⟩
  have wp : IntKind.i64.wrap ((n : Int) - 1) = (p : Int) := by rw [IntKind.wrap_i64]; omega
  have HMID : Hid (mid = (a + b) / 2) := hmid
  have HN : Hid (n = mid + m) := hn
  have HP : Hid (p + 1 = n) := by show p + 1 = n; omega
  clear hma hbm hmid hn hp
  go_enter Try.func60, Try.ntmps60
  go_upto_if 140 with fail
  go_cut [20, 21] from 140 (fun v20 v21 wx => ∃ lo hi : Nat, v20 = .int .i64 lo ∧ v21 = .int .i64 hi ∧ MidOK a m b mid lo hi ∧ wx = (putRow enc w blk off d).drewN q)
  case first =>
    by_cases hm : mid < m
    · have hmd : (mid : Int) < (m : Int) := by omega
      obtain ⟨lo, hlo⟩ : ∃ x, x = n - b := ⟨_, rfl⟩
      have h1 := HMID.out
      have h2 := HN.out
      have wl : IntKind.i64.wrap ((n : Int) - (b : Int)) = (lo : Int) := by rw [IntKind.wrap_i64]; omega
      have HOK : Hid (MidOK a m b mid lo mid) := ⟨by omega, by omega, by omega, by omega, by omega, by omega, by omega⟩
      clear h1 h2 hlo
      go_wp2_with fail
      go_meet
      exact ⟨lo, mid, rfl, rfl, HOK.out, rfl⟩
    · have hmd : ¬ (mid : Int) < (m : Int) := by omega
      have h1 := HMID.out
      have HOK : Hid (MidOK a m b mid a m) := ⟨by omega, by omega, by omega, by omega, by omega, by omega, by omega⟩
      clear h1
      go_wp2_with fail
      go_meet
      exact ⟨a, m, rfl, rfl, HOK.out, rfl⟩
  case rest =>
    obtain ⟨lo, hi, rfl, rfl, hok, hw⟩ := hcut
    have HOK : Hid (MidOK a m b mid lo hi) := hok
    have HW : Hid (wc = (putRow enc w blk off d).drewN q) := hw
    clear hok hw
    go_wp2_with fail
    go_loopg [20, 21] (hi - lo) (fun gk vi vj wr => ∃ (i j q : Nat), vi = .int .i64 i ∧ vj = .int .i64 j ∧ lo ≤ i ∧ i ≤ j ∧ j ≤ hi ∧ gk = j - i ∧ wr = (putRow enc w blk off d).drewN q ∧ Hid (∀ c, lo ≤ c → c < i → ltOf cf d[mid + m - 1 - c]! d[c]! = false) ∧ Hid (∀ c, j ≤ c → c < hi → ltOf cf d[mid + m - 1 - c]! d[c]! = true))
    case atStart => exact ⟨lo, hi, q, rfl, rfl, Nat.le_refl _, HOK.out.lh, Nat.le_refl _, rfl, HW.out, fun x h1 h2 => by omega, fun x h1 h2 => by omega⟩
    case round =>
      clear HW
      obtain ⟨i, j, q, rfl, rfl, hmi, hij, hjb, hgk, hwr, HB, HA⟩ := hrel
      have HWR : Hid (wr = (putRow enc w blk off d).drewN q) := hwr
      have hhim : hi ≤ m := HOK.out.hm
      have hhid : hi ≤ mid := HOK.out.hd
      have hpb : mid + m ≤ b + lo := HOK.out.pb
      have hal : a ≤ lo := HOK.out.al
      by_cases hlt : i < j
      · have hHk : Holds enc wr blk off d := by rw [hwr]; exact so_holds HH.out rfl
        have hltd : (i : Int) < (j : Int) := by omega
        have hpn := HP.out
        have hnn := HN.out
        obtain ⟨h, hh⟩ : ∃ h, h = (i + j) / 2 := ⟨_, rfl⟩
        have hhz : ((i : Int) + (j : Int)) / 2 = (h : Int) := by omega
        have hh1 : i ≤ h := by omega
        have hh2 : h < j := by omega
        obtain ⟨ph, hph⟩ : ∃ x, x = p - h := ⟨_, rfl⟩
        have hph2 : ph = mid + m - 1 - h := by omega
        have wph : IntKind.i64.wrap ((p : Int) - (h : Int)) = (ph : Int) := by rw [IntKind.wrap_i64]; omega
        obtain ⟨xh, hxh⟩ : ∃ x, d[h]! = x := ⟨_, rfl⟩
        obtain ⟨ch, fh⟩ := hHk h (by omega)
        rw [hxh] at ch
        obtain ⟨xp, hxp⟩ : ∃ x, d[ph]! = x := ⟨_, rfl⟩
        obtain ⟨cp, fp⟩ := hHk ph (by omega)
        rw [hxp] at cp
        have HXH : Hid (d[h]! = xh) := hxh
        have HXP : Hid (d[mid + m - 1 - h]! = xp) := by show _ = _; rw [← hph2]; exact hxp
        have hN1 : (h : Int) < (N : Int) := by omega
        have hN2 : (ph : Int) < (N : Int) := by omega
        have hc : ∀ n, Calls Try.prog g (#[enc xp, enc xh] ++ cb) (wr.drewN n) fun e y' => e = .returned (.int .i64 (cf xp xh)) ∧ ∃ q, y' = (wr.drewN n).drewN q := fun n => by
          have := HC d xp xh hN (q + n)
          rw [hwr, World.drewN_drewN]
          exact this
        have hmi2 : h < hi := by omega
        have hmi3 : lo ≤ h := by omega
        clear hwr hHk hxh hxp hh hph hph2 hpn hnn
        by_cases hl : cf xp xh < 0
        · go_wp2_with fail
          go_quiet_o (first | (go_at_fn g; refine Calls.quiet_of (hc _)))
          go_wp2_with fail
          go_roundg (h - i)
          case measure => omega
          case rel =>
            refine ⟨i, h, q + nq, rfl, rfl, hmi, by omega, by omega, rfl, by rw [HWR.out, World.drewN_drewN], HB, ?_⟩
            exact mid_down HSW.out HOK.out HS1.out HS2.out hmi3 (by rw [HXP.out, HXH.out]; exact decide_eq_true hl)
        · have hl0 : 0 ≤ cf xp xh := by omega
          have hld : decide (cf xp xh < 0) = false := decide_eq_false hl
          have hld2 : decide (0 ≤ cf xp xh) = true := decide_eq_true hl0
          go_wp2_with fail
          go_quiet_o (first | (go_at_fn g; refine Calls.quiet_of (hc _)))
          go_wp2_with fail
          go_roundg (j - (h + 1))
          case measure => omega
          case rel =>
            refine ⟨h + 1, j, q + nq, by go_num, rfl, by omega, by omega, hjb, rfl, by rw [HWR.out, World.drewN_drewN], ?_, HA⟩
            exact mid_up HSW.out HOK.out HS1.out HS2.out hmi2 (by rw [HXP.out, HXH.out]; exact decide_eq_false (by omega))
      · have hij2 : i = j := by omega
        subst hij2
        have hltd : ¬ (i : Int) < (i : Int) := by omega
        have hcut : CutAt (ltOf cf) a m b mid i d := cut_of HSW.out HOK.out HS1.out HS2.out hmi hjb HB.out HA.out
        have hnn := HN.out
        have hmm := HMID.out
        obtain ⟨c1, c2, c3, c4, c5, -, -⟩ := hcut
        obtain ⟨e, he⟩ : ∃ x, x = mid + m - i := ⟨_, rfl⟩
        have we : IntKind.i64.wrap ((n : Int) - (i : Int)) = (e : Int) := by rw [IntKind.wrap_i64]; omega
        rw [← he] at c4 c5
        have hmide : mid ≤ e := by omega
        have HE : Hid (e = mid + m - i) := he
        have HCUT : Hid (CutAt (ltOf cf) a m b mid i d) := cut_of HSW.out HOK.out HS1.out HS2.out hmi hjb HB.out HA.out
        have hmb2 : mid < b := by omega
        have ham2 : a < mid := by omega
        clear hnn hmm he hwr HA HB
        go_upto_region 39 with fail
        go_cut [185] from 178 (fun v wx => v = .bool (decide (i < m ∧ m < e)) ∧ wx = (putRow enc w blk off d).drewN q)
        case first =>
          by_cases him : i < m
          · have himd : (i : Int) < (m : Int) := by omega
            by_cases hme : m < e
            · have hmed : (m : Int) < (e : Int) := by omega
              go_wp2_with fail
              go_meet
              exact ⟨congrArg Value.bool (by simp [him, hme]), HWR.out⟩
            · have hmed : ¬ (m : Int) < (e : Int) := by omega
              go_wp2_with fail
              go_meet
              exact ⟨congrArg Value.bool (by simp [hme]), HWR.out⟩
          · have himd : ¬ (i : Int) < (m : Int) := by omega
            go_wp2_with fail
            go_meet
            exact ⟨congrArg Value.bool (by simp [him]), HWR.out⟩
        case rest =>
        obtain ⟨rfl, hw0⟩ := hcut
        clear HWR
        have HWR : Hid (wc = (putRow enc w blk off d).drewN q) := hw0
        clear hw0
        go_upto_if 185 with fail
        go_cut [] from 178 (fun wx => ∃ (d1 : Array Nat) (q1 : Nat), RotTo i m e d d1 ∧ PermIn a b d d1 ∧ wx = (putRow enc w blk off d1).drewN q1)
        case first =>
          by_cases hb1 : i < m ∧ m < e
          · have hbd : decide (i < m ∧ m < e) = true := decide_eq_true hb1
            have hHk : Holds enc wc blk off d := by rw [HWR.out]; exact so_holds HH.out rfl
            have hc := rotate_any enc hO (.func (.func g) #[] cb) blk off cap i m e d wc hHk hb1.1 hb1.2 (by omega) (by omega)
            rw [hN] at hc
            have HCC := show Hid _ from hc
            clear hc hHk
            go_wp2_with fail
            refine Calls.mono HCC.out ?_
            rintro e2 y ⟨rfl, d1, hr, hp, q', rfl⟩
            have HR : Hid (RotTo i m e d d1) := hr
            have HPP : Hid (PermIn i e d d1) := hp
            clear hr hp
            go_wp2_with fail
            go_meet
            refine ⟨d1, q + q', HR.out, permIn_mono _ _ _ _ _ _ (by omega) c5 (by omega) HPP.out, ?_⟩
            rw [HWR.out]
            exact so_comp _ _ _ _ _ _ _ _ HR.out.size
          · have hbd : decide (i < m ∧ m < e) = false := decide_eq_false hb1
            go_wp2_with fail
            go_meet
            refine ⟨d, q, ?_, permIn_refl _ _ _, HWR.out⟩
            by_cases him : i < m
            · have : e = m := by omega
              rw [this]
              exact RotTo.none _ _ _
            · have : i = m := by omega
              rw [this]
              exact RotTo.none' _ _ _
        case rest =>
          obtain ⟨d1, q1, hr, hp1, hw1⟩ := hcut
          have hs1 : d1.size = N := by rw [hr.size, hN]
          have hst1 : Stb (ltOf cf) d1 := HS3.out.rot hr c3 c4 (by omega) (by rw [HE.out]; exact HCUT.out.turn)
          rw [HE.out] at hr
          obtain ⟨g1, g2, g3, g4, g5⟩ := HCUT.out.halves HSW.out HS1.out HS2.out hr (by omega)
          rw [← HE.out] at hr g4 g5
          have HG1 := show Hid _ from g1
          have HG2 : Hid (SortedIn (ltOf cf) a i d1) := g2
          have HG3 : Hid (SortedIn (ltOf cf) i mid d1) := g3
          have HG4 : Hid (SortedIn (ltOf cf) mid e d1) := g4
          have HG5 : Hid (SortedIn (ltOf cf) e b d1) := g5
          have HR : Hid (RotTo i m e d d1) := hr
          have HP1 : Hid (PermIn a b d d1) := hp1
          have HST1 : Hid (Stb (ltOf cf) d1) := hst1
          have HW1 : Hid (wc = (putRow enc w blk off d1).drewN q1) := hw1
          clear g1 g2 g3 g4 g5 hr hp1 hst1 hw1
          go_upto_region 41 with fail
          go_cut [199] from 178 (fun v wx => v = .bool (decide (a < i ∧ i < mid)) ∧ wx = (putRow enc w blk off d1).drewN q1)
          case first =>
            by_cases hai : a < i
            · have haid : (a : Int) < (i : Int) := by omega
              by_cases him : i < mid
              · have himd : (i : Int) < (mid : Int) := by omega
                go_wp2_with fail
                go_meet
                exact ⟨congrArg Value.bool (by simp [hai, him]), HW1.out⟩
              · have himd : ¬ (i : Int) < (mid : Int) := by omega
                go_wp2_with fail
                go_meet
                exact ⟨congrArg Value.bool (by simp [him]), HW1.out⟩
            · have haid : ¬ (a : Int) < (i : Int) := by omega
              go_wp2_with fail
              go_meet
              exact ⟨congrArg Value.bool (by simp [hai]), HW1.out⟩
          case rest =>
          obtain ⟨rfl, hw0⟩ := hcut
          clear HW1
          have HW1 : Hid (wc = (putRow enc w blk off d1).drewN q1) := hw0
          clear hw0
          go_upto_if 199 with fail
          go_cut [] from 178 (fun wx => ∃ (d2 : Array Nat) (q2 : Nat), Merged (ltOf cf) a mid d1 d2 ∧ wx = (putRow enc w blk off d2).drewN q2)
          case first =>
            by_cases hb1 : a < i ∧ i < mid
            · have hbd : decide (a < i ∧ i < mid) = true := decide_eq_true hb1
              have hc := HIH a i mid q1 d1 (by omega) hs1 hb1.1 hb1.2 (by omega) HG2.out HG3.out HST1.out
              rw [← HW1.out] at hc
              have HCC := show Hid _ from hc
              clear hc
              go_wp2_with fail
              refine Calls.mono HCC.out ?_
              rintro e2 y ⟨rfl, d2, hm2, q', hy⟩
              have HM2 : Hid (Merged (ltOf cf) a mid d1 d2) := hm2
              have HY : Hid (y = (putRow enc w blk off d2).drewN q') := hy
              clear hm2 hy
              go_wp2_with fail
              go_meet
              exact ⟨d2, q', HM2.out, HY.out⟩
            · have hbd : decide (a < i ∧ i < mid) = false := decide_eq_false hb1
              go_wp2_with fail
              go_meet
              refine ⟨d1, q1, Merged.refl ?_ HST1.out, HW1.out⟩
              by_cases hai : a < i
              · have : mid = i := by omega
                rw [this]
                exact HG2.out
              · have : a = i := by omega
                rw [this]
                exact HG3.out
          case rest =>
            obtain ⟨d2, q2, hm2, hw2⟩ := hcut
            have hs2 : d2.size = N := by rw [hm2.perm.1, hs1]
            have hout : ∀ k, mid ≤ k → d2[k]! = d1[k]! := fun k hk => hm2.perm.2.1 k (.inr hk)
            have HG4' : Hid (SortedIn (ltOf cf) mid e d2) := fun x y hx hxy hy => by rw [hout x hx, hout y (by omega)]; exact HG4.out x y hx hxy hy
            have HG5' : Hid (SortedIn (ltOf cf) e b d2) := fun x y hx hxy hy => by rw [hout x (by omega), hout y (by omega)]; exact HG5.out x y hx hxy hy
            have HM2 : Hid (Merged (ltOf cf) a mid d1 d2) := hm2
            have HW2 : Hid (wc = (putRow enc w blk off d2).drewN q2) := hw2
            clear hm2 hw2 hout
            by_cases hme : mid < e
            · have hmed : (mid : Int) < (e : Int) := by omega
              by_cases heb : e < b
              · have hebd : (e : Int) < (b : Int) := by omega
                have hc := HIH mid e b q2 d2 (by omega) hs2 hme heb hb HG4'.out HG5'.out HM2.out.stb
                rw [← HW2.out] at hc
                have HCC := show Hid _ from hc
                clear hc
                go_wp2_with fail
                refine Calls.mono HCC.out ?_
                rintro e2 y ⟨rfl, d3, hm3, q', hy⟩
                have HM3 : Hid (Merged (ltOf cf) mid b d2 d3) := hm3
                have HY : Hid (y = (putRow enc w blk off d3).drewN q') := hy
                clear hm3 hy
                go_wp2_with fail
                go_end0
                exact ⟨rfl, d3, merged_halves (by omega) (by omega) (by omega) HP1.out HG1.out HM2.out HM3.out, q', HY.out⟩
              · have hebd : ¬ (e : Int) < (b : Int) := by omega
                have HM3 : Hid (Merged (ltOf cf) mid b d2 d2) := Merged.refl (by rw [show b = e by omega]; exact HG4'.out) HM2.out.stb
                go_wp2_with fail
                go_end0
                exact ⟨rfl, d2, merged_halves (by omega) (by omega) (by omega) HP1.out HG1.out HM2.out HM3.out, q2, HW2.out⟩
            · have hmed : ¬ (mid : Int) < (e : Int) := by omega
              have HM3 : Hid (Merged (ltOf cf) mid b d2 d2) := Merged.refl (by rw [show mid = e by omega]; exact HG5'.out) HM2.out.stb
              go_wp2_with fail
              go_end0
              exact ⟨rfl, d2, merged_halves (by omega) (by omega) (by omega) HP1.out HG1.out HM2.out HM3.out, q2, HW2.out⟩

end Go.Proofs.Ytgmljpkenipgjaa.Pk

/-
  pack: the library's stable sort: any merge.
-/
namespace Go.Proofs.Ytgmljpkenipgjaa.Pk
open Go.Sort Go.RowKit Go.Shelf

theorem merge_any (enc : Nat → Value) (hO : OneCell enc) (cf : Nat → Nat → Int) (hS : SWO (ltOf cf)) (g : Nat) (cb : Array Value) (eg : ∀ args w, (callFunc g args).run Try.prog w = .ok (.enter g args) w) (w : World) (blk off cap N : Nat) (hcmp : CmpOk enc cf g cb w blk off N) (d0 : Array Nat) (h0 : d0.size = N) (hH : Holds enc w blk off d0) (hsz : N < 4611686018427387904) : ∀ K, MergeOk enc cf g cb w blk off cap N K
  | 0 => fun a m b q d hK hN ham hmb => absurd hK (by omega)
  | K + 1 => fun a m b q d hK hN ham hmb hb h1 h2 h3 => by
    have e1 : putRow enc (putRow enc w blk off d) blk off d = putRow enc w blk off d := putRow_putRow _ _ _ _ _ _ rfl
    have hHd : Holds enc (putRow enc w blk off d) blk off d := holds_putRow enc w blk off d0 d hH (by omega)
    have e2 : ∀ X : Array Nat, X.size = N → putRow enc (putRow enc w blk off d) blk off X = putRow enc w blk off X := fun X hX => putRow_putRow _ _ _ _ _ _ (by omega)
    have hcmp2 : CmpOk enc cf g cb (putRow enc w blk off d) blk off N := fun X x y hX n => by rw [e2 X hX]; exact hcmp X x y hX n
    have back : ∀ {a m b q : Nat}, (Calls Try.prog 60 #[.slice (some ⟨blk, off, none⟩) N cap, .int .i64 (a : Nat), .int .i64 (m : Nat), .int .i64 (b : Nat), .func (.func g) #[] cb] ((putRow enc (putRow enc w blk off d) blk off d).drewN q) fun e y => e = .returned (.tuple #[]) ∧ ∃ d', Merged (ltOf cf) a b d d' ∧ ∃ q', y = (putRow enc (putRow enc w blk off d) blk off d').drewN q') → Calls Try.prog 60 #[.slice (some ⟨blk, off, none⟩) N cap, .int .i64 (a : Nat), .int .i64 (m : Nat), .int .i64 (b : Nat), .func (.func g) #[] cb] ((putRow enc w blk off d).drewN q) fun e y => e = .returned (.tuple #[]) ∧ ∃ d', Merged (ltOf cf) a b d d' ∧ ∃ q', y = (putRow enc w blk off d').drewN q' := fun h => by
      rw [e1] at h
      refine h.mono ?_
      rintro e y ⟨rfl, d', hm, q', rfl⟩
      exact ⟨rfl, d', hm, q', by rw [e2 d' (by rw [hm.perm.1, hN])]⟩
    by_cases c1 : m = a + 1
    · subst c1
      exact back (merge_one enc hO cf hS g cb eg _ blk off cap a b N q d hcmp2 hHd hN (by omega) hb hsz h2 h3)
    · by_cases c2 : b = m + 1
      · subst c2
        exact back (merge_last enc hO cf hS g cb eg _ blk off cap a m N q d hcmp2 hHd hN (by omega) (by omega) hsz h1 h3)
      · refine back (merge_mid enc hO cf hS g cb eg _ blk off cap a m b N K q d hcmp2 hHd hN (by omega) (by omega) hb hsz h1 h2 h3 (by omega) ?_)
        intro a m b q dd hK hN' ham hmb hb h1 h2 h3
        have := merge_any enc hO cf hS g cb eg w blk off cap N hcmp d0 h0 hH hsz K a m b q dd hK hN' ham hmb hb h1 h2 h3
        rw [e2 dd hN']
        refine this.mono ?_
        rintro e y ⟨rfl, d', hm, q', rfl⟩
        exact ⟨rfl, d', hm, q', by rw [e2 d' (by rw [hm.perm.1, hN'])]⟩

end Go.Proofs.Ytgmljpkenipgjaa.Pk

/-
  pack: the library's stable sort, whole.
-/
namespace Go.Proofs.Ytgmljpkenipgjaa.Pk
open Go.Sort Go.RowKit Go.Shelf

theorem cmpReads_ok {enc : Nat → Value} {cf : Nat → Nat → Int} {g : Nat} {cb : Array Value} {w : World} {blk off N : Nat} (h : CmpReads Try.prog g cb enc cf blk off N w) : CmpOk enc cf g cb w blk off N := fun X x y hX n => by
  have := h n #[] X hX x y
  rw [sortWorld_none] at this
  exact this
theorem sortWorld_moved (enc : Nat → Value) (w : World) (blk off m q : Nat) (d dk : Array Nat) (os : Array Obj) (h : dk.size = d.size) : sortWorld enc ((putRow enc w blk off d).drewN q) blk off m dk os = sortWorld enc w blk off (q + m) dk os := by
  unfold sortWorld
  have e : putRow enc (Sort.ahead ((putRow enc w blk off d).drewN q) m) blk off dk = putRow enc (Sort.ahead w (q + m)) blk off dk := by
    have := so_comp enc w blk off q m d dk h
    exact this
  rw [e]
theorem cmpReads_moved {enc : Nat → Value} {cf : Nat → Nat → Int} {g : Nat} {cb : Array Value} {w : World} {blk off N : Nat} (h : CmpReads Try.prog g cb enc cf blk off N w) (d : Array Nat) (hd : d.size = N) (q : Nat) : CmpReads Try.prog g cb enc cf blk off N ((putRow enc w blk off d).drewN q) := fun m os dk hk x y => by
  rw [sortWorld_moved _ _ _ _ _ _ _ _ _ (by omega)]
  exact h (q + m) os dk hk x y

set_option maxHeartbeats 8000000 in
set_option maxRecDepth 1000000 in
theorem stable_any (enc : Nat → Value) (hO : OneCell enc) (cf : Nat → Nat → Int) (hS : SWO (ltOf cf)) (g : Nat) (cb : Array Value) (eg : ∀ args w, (callFunc g args).run Try.prog w = .ok (.enter g args) w) (w : World) (blk off cap N : Nat) (d : Array Nat) (hcmp : CmpReads Try.prog g cb enc cf blk off N w) (hH : Holds enc w blk off d) (hN : d.size = N) (hsz : N < 1099511627776) (h3 : Stb (ltOf cf) d) :
    Calls Try.prog 57 #[.slice (some ⟨blk, off, none⟩) N cap, .int .i64 N, .func (.func g) #[] cb] w fun e y => e = .returned (.tuple #[]) ∧ ∃ d', Merged (ltOf cf) 0 N d d' ∧ ∃ q', y = (putRow enc w blk off d').drewN q' := by
  have HST : Hid (w = (putRow enc w blk off d).drewN 0) := (putRow_self enc w blk off d hH).symm
  have HH : Hid (Holds enc w blk off d) := hH
  have HC := show Aside _ from hcmp
  have HMG : Hid (MergeOk enc cf g cb w blk off cap N N) := merge_any enc hO cf hS g cb eg w blk off cap N (cmpReads_ok hcmp) d hN hH (by omega) N
  have HI : Hid (∀ (a b q : Nat) (dk : Array Nat), dk.size = N → a ≤ b → b ≤ N → Stb (ltOf cf) dk → Calls Try.prog 59 #[.slice (some ⟨blk, off, none⟩) N cap, .int .i64 a, .int .i64 b, .func (.func g) #[] cb] ((putRow enc w blk off dk).drewN q) fun e y => e = .returned (.tuple #[]) ∧ ∃ d', Merged (ltOf cf) a b dk d' ∧ ∃ q', y = (putRow enc w blk off d').drewN q') := fun a b q dk hk hab hb hst => by
    have hc := Any.insertionSortCmpFunc_one (P := Try.prog) { Try.insInts with } enc hO cf g cb blk off cap a b dk ((putRow enc w blk off dk).drewN q) eg (by rw [hk]; exact cmpReads_moved hcmp dk hk q) (so_holds hH (by omega)) hab (by omega) (by omega)
    rw [hk] at hc
    refine hc.mono ?_
    rintro e y ⟨rfl, n, rfl⟩
    exact ⟨rfl, _, ins_merged hS dk a b hab (by omega) hst, q + n, so_comp _ _ _ _ _ _ _ _ (ins_merged hS dk a b hab (by omega) hst).perm.1⟩
  have HSW : Hid (SWO (ltOf cf)) := hS
  have HS3 : Hid (Stb (ltOf cf) d) := h3
  clear hcmp hH h3 hS
  go_enter Try.func57, Try.ntmps57
  go_wp2
  go_loopg [7, 8] (N / 20 + 1) (fun gk va vb wr => ∃ (k a b q : Nat) (dk : Array Nat), va = .int .i64 a ∧ vb = .int .i64 b ∧ b = a + 20 ∧ a = 20 * k ∧ a ≤ N ∧ gk + k = N / 20 + 1 ∧ dk.size = N ∧ wr = (putRow enc w blk off dk).drewN q ∧ Hid (Half (ltOf cf) 1 20 N a dk) ∧ Hid (PermIn 0 N d dk) ∧ Hid (Stb (ltOf cf) dk))
  case atStart => exact ⟨0, 0, 20, 0, d, rfl, rfl, rfl, rfl, Nat.zero_le _, rfl, hN, HST.out, Half.start (runs_one _ _), permIn_refl _ _ _, HS3.out⟩
  case round =>
    clear HST HS3
    obtain ⟨k, a, b, q, dk, rfl, rfl, hba, hak, haN, hgk, hsk, hwr, HF, HP, HT⟩ := hrel
    have HWR : Hid (wr = (putRow enc w blk off dk).drewN q) := hwr
    by_cases hlt : b ≤ N
    · have hltd : (b : Int) ≤ (N : Int) := by omega
      have hc := HI.out a b q dk hsk (by omega) hlt HT.out
      rw [← hwr] at hc
      have HCC := show Hid _ from hc
      clear hc hwr
      obtain ⟨b2, hb2⟩ : ∃ x, x = b + 20 := ⟨_, rfl⟩
      have w1 : IntKind.i64.wrap ((b : Int) + 20) = (b2 : Int) := by rw [IntKind.wrap_i64]; omega
      have HB : Hid (b = a + 20 ∧ a = 20 * k ∧ b2 = b + 20) := ⟨hba, hak, hb2⟩
      clear hba hak hb2
      go_wp2_with fail
      refine Calls.mono HCC.out ?_
      rintro e y ⟨rfl, d', hm, q', hy⟩
      have HM : Hid (Merged (ltOf cf) a b dk d') := hm
      have HY : Hid (y = (putRow enc w blk off d').drewN q') := hy
      clear hm hy
      go_wp2_with fail
      go_roundg (gk - 1)
      case measure => have := HB.out; omega
      case rel =>
        obtain ⟨e1, e2, e3⟩ := HB.out
        refine ⟨k + 1, b, b2, q', d', rfl, rfl, e3, by omega, hlt, by omega, by rw [HM.out.perm.1, hsk], HY.out, by rw [e1]; exact HF.out.step ⟨k, e2⟩ (by omega) (by omega) (by rw [← e1]; exact HM.out), permIn_trans _ _ _ _ _ HP.out (HM.out.wide hlt (by omega)), HM.out.stb⟩
    · have hltd : ¬ (b : Int) ≤ (N : Int) := by omega
      have HB : Hid (b = a + 20 ∧ a = 20 * k) := ⟨hba, hak⟩
      clear hba hak
      have hc := HI.out a N q dk hsk haN (Nat.le_refl _) HT.out
      rw [← hwr] at hc
      have HCC := show Hid _ from hc
      clear hc hwr
      go_wp2_with fail
      refine Calls.mono HCC.out ?_
      rintro e y ⟨rfl, d1, hm, q', hy⟩
      have hr1 : Runs (ltOf cf) 20 N d1 := Half.fin HF.out ⟨k, HB.out.2⟩ (by have := HB.out; omega) hm
      have HR1 : Hid (Runs (ltOf cf) 20 N d1) := hr1
      have hp1 : PermIn 0 N d d1 := permIn_trans _ _ _ _ _ HP.out (Merged.wide hm (Nat.le_refl _) (by omega))
      have HP1 : Hid (PermIn 0 N d d1) := hp1
      have HT1 : Hid (Stb (ltOf cf) d1) := hm.stb
      have hs1 : d1.size = N := by rw [hm.perm.1, hsk]
      have HY : Hid (y = (putRow enc w blk off d1).drewN q') := hy
      clear hr1 hp1 hm hy HF HP HT HWR HB hltd hlt hgk haN hsk
      go_wp2_with fail
      go_loopg [6] N (fun gk vs wr => ∃ (s q : Nat) (dk : Array Nat), vs = .int .i64 s ∧ 20 ≤ s ∧ s ≤ 2 * N + 20 ∧ gk = N + 20 - s ∧ dk.size = N ∧ wr = (putRow enc w blk off dk).drewN q ∧ Hid (Runs (ltOf cf) s N dk) ∧ Hid (PermIn 0 N d dk) ∧ Hid (Stb (ltOf cf) dk))
      case atStart => exact ⟨20, q', d1, rfl, Nat.le_refl _, by omega, by omega, hs1, HY.out, HR1.out, HP1.out, HT1.out⟩
      case round =>
        clear HY HR1 HP1 HT1
        obtain ⟨s, q, dk, rfl, hs20, hsN, hgs, hsk, hwr, HR, HP, HT⟩ := hrel
        have HWR : Hid (wr = (putRow enc w blk off dk).drewN q) := hwr
        clear hwr
        by_cases hlt : s < N
        · have hltd : (s : Int) < (N : Int) := by omega
          obtain ⟨s2, hs2⟩ : ∃ x, x = 2 * s := ⟨_, rfl⟩
          have w1 : IntKind.i64.wrap (2 * (s : Int)) = (s2 : Int) := by rw [IntKind.wrap_i64]; omega
          have w2 : IntKind.i64.wrap ((s : Int) * 2) = (s2 : Int) := by rw [IntKind.wrap_i64]; omega
          have HS2 : Hid (s2 = 2 * s) := hs2
          have hs2a : s2 < 2199023255552 := by omega
          have hs2b : s < s2 := by omega
          clear hs2
          go_wp2_with fail
          go_loopg [7, 8] N (fun gk va vb wr => ∃ (k a b q : Nat) (dk : Array Nat), va = .int .i64 a ∧ vb = .int .i64 b ∧ Hid (b = a + s2 ∧ a = s2 * k) ∧ a ≤ N ∧ gk = N - a ∧ dk.size = N ∧ wr = (putRow enc w blk off dk).drewN q ∧ Hid (Half (ltOf cf) s s2 N a dk) ∧ Hid (PermIn 0 N d dk) ∧ Hid (Stb (ltOf cf) dk))
          case atStart => exact ⟨0, 0, s2, q, dk, rfl, rfl, ⟨by omega, by omega⟩, Nat.zero_le _, rfl, hsk, HWR.out, Half.start HR.out, HP.out, HT.out⟩
          case round =>
            clear HWR HP HT HR hsk
            obtain ⟨k, a, b, q, dk, rfl, rfl, HB, haN, hgk, hsk, hwr, HF, HP, HT⟩ := hrel
            have HWR : Hid (wr = (putRow enc w blk off dk).drewN q) := hwr
            clear hwr
            have hb0 : a + s2 = b := HB.out.1.symm
            have hs0 : s2 = 2 * s := HS2.out
            obtain ⟨m, hm0⟩ : ∃ x, x = a + s := ⟨_, rfl⟩
            have w3 : IntKind.i64.wrap ((a : Int) + (s : Int)) = (m : Int) := by rw [IntKind.wrap_i64]; omega
            have HM0 : Hid (m = a + s) := hm0
            have hsa : s ∣ a := ⟨2 * k, by rw [HB.out.2, hs0, Nat.mul_assoc, Nat.mul_left_comm]⟩
            by_cases hlb : b ≤ N
            · have hltb : (b : Int) ≤ (N : Int) := by omega
              obtain ⟨b2, hb2⟩ : ∃ x, x = b + s2 := ⟨_, rfl⟩
              have w4 : IntKind.i64.wrap ((b : Int) + (s2 : Int)) = (b2 : Int) := by rw [IntKind.wrap_i64]; omega
              have HB2 : Hid (b2 = b + s2) := hb2
              have h1 : SortedIn (ltOf cf) a m dk := by
                have := HF.out.left a hsa (Nat.le_refl _)
                rw [show min (a + s) N = m by omega] at this
                exact this
              have h2 : SortedIn (ltOf cf) m b dk := by
                have := HF.out.left m (by rw [hm0]; exact Nat.dvd_add hsa (Nat.dvd_refl s)) (by omega)
                rw [show min (m + s) N = b by omega] at this
                exact this
              have hc := HMG.out a m b q dk (by omega) hsk (by omega) (by omega) hlb h1 h2 HT.out
              rw [← HWR.out] at hc
              have HCC := show Hid _ from hc
              have hab : a < b := by omega
              clear hc h1 h2 hm0 hb0 hs0 hb2 hsa
              go_wp2_with fail
              refine Calls.mono HCC.out ?_
              rintro e y ⟨rfl, d', hm, q', hy⟩
              have HM : Hid (Merged (ltOf cf) a b dk d') := hm
              have HY : Hid (y = (putRow enc w blk off d').drewN q') := hy
              clear hm hy
              go_wp2_with fail
              go_roundg (N - b)
              case measure => omega
              case rel =>
                obtain ⟨e1, e2⟩ := HB.out
                refine ⟨k + 1, b, b2, q', d', rfl, rfl, ⟨HB2.out, by rw [e1, e2, Nat.mul_succ]⟩, hlb, rfl, by rw [HM.out.perm.1, hsk], HY.out, by rw [e1]; exact Half.step HF.out ⟨k, e2⟩ (by omega) (by omega) (by rw [← e1]; exact HM.out), permIn_trans _ _ _ _ _ HP.out (Merged.wide HM.out hlb (by omega)), HM.out.stb⟩
            · have hltb : ¬ (b : Int) ≤ (N : Int) := by omega
              by_cases hmN : m < N
              · have hmNd : (m : Int) < (N : Int) := by omega
                have h1 : SortedIn (ltOf cf) a m dk := by
                  have := HF.out.left a hsa (Nat.le_refl _)
                  rw [show min (a + s) N = m by omega] at this
                  exact this
                have h2 : SortedIn (ltOf cf) m N dk := by
                  have := HF.out.left m (by rw [hm0]; exact Nat.dvd_add hsa (Nat.dvd_refl s)) (by omega)
                  rw [show min (m + s) N = N by omega] at this
                  exact this
                have hc := HMG.out a m N q dk (by omega) hsk (by omega) (by omega) (Nat.le_refl _) h1 h2 HT.out
                rw [← HWR.out] at hc
                have HCC := show Hid _ from hc
                clear hc h1 h2 hm0 hb0 hs0 hsa
                go_wp2_with fail
                refine Calls.mono HCC.out ?_
                rintro e y ⟨rfl, d', hm, q', hy⟩
                have hr1 : Runs (ltOf cf) s2 N d' := Half.fin HF.out ⟨k, HB.out.2⟩ (by have := HB.out; omega) hm
                have hp1 : PermIn 0 N d d' := permIn_trans _ _ _ _ _ HP.out (Merged.wide hm (Nat.le_refl _) (by omega))
                have HR1 : Hid (Runs (ltOf cf) s2 N d') := hr1
                have HP1 : Hid (PermIn 0 N d d') := hp1
                have HT1 : Hid (Stb (ltOf cf) d') := hm.stb
                have hs1 : d'.size = N := by rw [hm.perm.1, hsk]
                have HY : Hid (y = (putRow enc w blk off d').drewN q') := hy
                clear hr1 hp1 hm hy
                go_wp2_with fail
                go_roundg (N + 20 - s2)
                case measure => omega
                case rel => exact ⟨s2, q', d', rfl, by omega, by have := HS2.out; omega, rfl, hs1, HY.out, HR1.out, HP1.out, HT1.out⟩
              · have hmNd : ¬ (m : Int) < (N : Int) := by omega
                have hl : Merged (ltOf cf) a N dk dk := Half.last HF.out hsa (by omega) HT.out
                have hr1 : Runs (ltOf cf) s2 N dk := Half.fin HF.out ⟨k, HB.out.2⟩ (by omega) hl
                have HR1 : Hid (Runs (ltOf cf) s2 N dk) := hr1
                clear hl hr1 hm0 hb0 hs0 hsa
                go_wp2_with fail
                go_roundg (N + 20 - s2)
                case measure => omega
                case rel => exact ⟨s2, q, dk, rfl, by omega, by have := HS2.out; omega, rfl, hsk, HWR.out, HR1.out, HP.out, HT.out⟩
        · have hltd : ¬ (s : Int) < (N : Int) := by omega
          have HE : Hid (Merged (ltOf cf) 0 N d dk) := ⟨HP.out, Runs.all HR.out (by omega), HT.out⟩
          go_wp2_with fail
          go_end0
          exact ⟨rfl, dk, HE.out, q, HWR.out⟩

end Go.Proofs.Ytgmljpkenipgjaa.Pk

/-
  pack: the library's stable sort as it is called, and the comparison of two numbers.
-/
namespace Go.Proofs.Ytgmljpkenipgjaa.Pk
open Go.Sort Go.RowKit Go.Shelf

set_option maxRecDepth 100000 in
theorem sortStable_any (enc : Nat → Value) (hO : OneCell enc) (cf : Nat → Nat → Int) (hS : SWO (ltOf cf)) (g : Nat) (cb : Array Value) (eg : ∀ args w, (callFunc g args).run Try.prog w = .ok (.enter g args) w) (w : World) (blk off cap N : Nat) (d : Array Nat) (hcmp : CmpReads Try.prog g cb enc cf blk off N w) (hH : Holds enc w blk off d) (hN : d.size = N) (hsz : N < 1099511627776) (h3 : Stb (ltOf cf) d) :
    Calls Try.prog 53 #[.slice (some ⟨blk, off, none⟩) N cap, .func (.func g) #[] cb] w fun e y => e = .returned (.tuple #[]) ∧ ∃ d', Merged (ltOf cf) 0 N d d' ∧ ∃ q', y = (putRow enc w blk off d').drewN q' := by
  have HC : Hid (Calls Try.prog 57 #[.slice (some ⟨blk, off, none⟩) N cap, .int .i64 N, .func (.func g) #[] cb] w fun e y => e = .returned (.tuple #[]) ∧ ∃ d', Merged (ltOf cf) 0 N d d' ∧ ∃ q', y = (putRow enc w blk off d').drewN q') := stable_any enc hO cf hS g cb eg w blk off cap N d hcmp hH hN hsz h3
  clear hcmp hH hS h3 hN
  go_enter Try.func53, Try.ntmps53
  go_wp2_with fail
  refine Calls.mono HC.out ?_
  rintro e y ⟨rfl, d', hm, q', hy⟩
  have HM : Hid (Merged (ltOf cf) 0 N d d') := hm
  have HY : Hid (y = (putRow enc w blk off d').drewN q') := hy
  clear hm hy HC
  go_wp2_with fail
  first | exact ⟨rfl, d', HM.out, q', HY.out⟩ | (go_end0; exact ⟨rfl, d', HM.out, q', HY.out⟩)

set_option maxRecDepth 100000 in
theorem ins_zero (a : Option Addr) (cap : Nat) (cv : Value) (w : World) : Calls Try.prog 59 #[.slice a 0 cap, .int .i64 0, .int .i64 0, cv] w fun e y => e = .returned (.tuple #[]) ∧ y = w := by
  go_enter Try.func59, Try.ntmps59
  go_wp2
  go_loopg [8] 0 (fun gk vi wr => vi = .int .i64 1 ∧ wr = w)
  case atStart => exact ⟨by go_num, rfl⟩
  case round =>
    obtain ⟨rfl, rfl⟩ := hrel
    go_wp2
    go_end0
    exact ⟨rfl, rfl⟩
set_option maxRecDepth 100000 in
theorem stable_zero (a : Option Addr) (cap : Nat) (cv : Value) (w : World) : Calls Try.prog 57 #[.slice a 0 cap, .int .i64 0, cv] w fun e y => e = .returned (.tuple #[]) ∧ y = w := by
  have HC := show Hid _ from ins_zero a cap cv w
  go_enter Try.func57, Try.ntmps57
  go_wp2
  go_loopg [7, 8] 0 (fun gk va vb wr => va = .int .i64 0 ∧ vb = .int .i64 20 ∧ wr = w)
  case atStart => exact ⟨rfl, rfl, rfl⟩
  case round =>
    obtain ⟨rfl, rfl, rfl⟩ := hrel
    go_wp2_with fail
    refine Calls.mono HC.out ?_
    rintro e y ⟨rfl, rfl⟩
    go_wp2_with fail
    go_loopg [6] 0 (fun gk vs wr => vs = .int .i64 20 ∧ wr = y)
    case atStart => exact ⟨rfl, rfl⟩
    case round =>
      obtain ⟨rfl, rfl⟩ := hrel
      go_wp2
      go_end0
      exact ⟨rfl, rfl⟩
set_option maxRecDepth 100000 in
theorem sortStable_zero (a : Option Addr) (cap : Nat) (cv : Value) (w : World) : Calls Try.prog 53 #[.slice a 0 cap, cv] w fun e y => e = .returned (.tuple #[]) ∧ y = w := by
  have HC := show Hid _ from stable_zero a cap cv w
  go_enter Try.func53, Try.ntmps53
  go_wp2_with fail
  refine Calls.mono HC.out ?_
  rintro e y ⟨rfl, rfl⟩
  go_wp2_with fail
  first | exact ⟨rfl, rfl⟩ | (go_end0; exact ⟨rfl, rfl⟩)

/-- What the library's comparison of two numbers tells. -/
def cmp3 (a b : Int) : Int := if a < b then -1 else if b < a then 1 else 0

set_option maxRecDepth 100000 in
theorem isNaN_any (x : Int) (w : World) : Calls Try.prog 58 #[.int .i64 x] w fun e y => e = .returned (.bool false) ∧ y = w := by
  go_enter Try.func58, Try.ntmps58
  go_wp2
  go_ret
  exact ⟨rfl, rfl⟩
set_option maxRecDepth 100000 in
theorem compare_any (a b : Int) (w : World) : Calls Try.prog 55 #[.int .i64 a, .int .i64 b] w fun e y => e = .returned (.int .i64 (cmp3 a b)) ∧ y = w := by
  have HA := show Hid _ from isNaN_any a w
  have HB := show Hid _ from isNaN_any b w
  by_cases h1 : a < b
  · have hv : cmp3 a b = -1 := if_pos h1
    rw [hv]
    go_enter Try.func55, Try.ntmps55
    go_wp2_with fail
    refine Calls.mono HA.out ?_
    rintro e y ⟨rfl, rfl⟩
    go_wp2_with fail
    refine Calls.mono HB.out ?_
    rintro e z ⟨rfl, rfl⟩
    go_wp2_with fail
    go_ret
    exact ⟨rfl, rfl⟩
  · by_cases h2 : b < a
    · have hv : cmp3 a b = 1 := by unfold cmp3; rw [if_neg h1, if_pos h2]
      rw [hv]
      go_enter Try.func55, Try.ntmps55
      go_wp2_with fail
      refine Calls.mono HA.out ?_
      rintro e y ⟨rfl, rfl⟩
      go_wp2_with fail
      refine Calls.mono HB.out ?_
      rintro e z ⟨rfl, rfl⟩
      go_wp2_with fail
      go_ret
      exact ⟨rfl, rfl⟩
    · have hv : cmp3 a b = 0 := by unfold cmp3; rw [if_neg h1, if_neg h2]
      rw [hv]
      go_enter Try.func55, Try.ntmps55
      go_wp2_with fail
      refine Calls.mono HA.out ?_
      rintro e y ⟨rfl, rfl⟩
      go_wp2_with fail
      refine Calls.mono HB.out ?_
      rintro e z ⟨rfl, rfl⟩
      go_wp2_with fail
      go_ret
      exact ⟨rfl, rfl⟩

end Go.Proofs.Ytgmljpkenipgjaa.Pk

/-
  pack: rows in the order in which they are laid, pure: what the stable sort leaves is the document's order.
-/
namespace Go.Proofs.Ytgmljpkenipgjaa.Pk
open Go.Sort

/-- Row i goes ahead of row j. -/
def Bef (Q : Nat → List Ed) (i j : Nat) : Prop := (Q j).length < (Q i).length ∨ ((Q i).length = (Q j).length ∧ i < j)
theorem pw_unique {r : Nat → Nat → Prop} (irr : ∀ x, ¬ r x x) (asy : ∀ x y, r x y → ¬ r y x) : ∀ l m : List Nat, l.Pairwise r → m.Pairwise r → (∀ x, x ∈ l ↔ x ∈ m) → l = m
  | [], [], _, _, _ => rfl
  | [], b :: m, _, _, h => absurd ((h b).2 (by simp)) (by simp)
  | a :: l, [], _, _, h => absurd ((h a).1 (by simp)) (by simp)
  | a :: l, b :: m, h1, h2, h => by
    rw [List.pairwise_cons] at h1 h2
    have hab : a = b := by
      by_cases e : a = b
      · exact e
      · have p1 : a ∈ m := by
          have := (h a).1 (by simp)
          simpa [e] using this
        have p2 : b ∈ l := by
          have := (h b).2 (by simp)
          have e2 : ¬ b = a := fun h => e h.symm
          simpa [e2] using this
        exact absurd (h2.1 a p1) (asy _ _ (h1.1 b p2))
    subst hab
    rw [pw_unique irr asy l m h1.2 h2.2 fun x => ⟨fun hx => ?_, fun hx => ?_⟩]
    · have := (h x).1 (by simp [hx])
      rw [List.mem_cons] at this
      rcases this with rfl | h3
      · exact absurd (h1.1 _ hx) (irr _)
      · exact h3
    · have := (h x).2 (by simp [hx])
      rw [List.mem_cons] at this
      rcases this with rfl | h3
      · exact absurd (h2.1 _ hx) (irr _)
      · exact h3
theorem Bef.irr (Q : Nat → List Ed) (x : Nat) : ¬ Bef Q x x := fun h => by rcases h with h | h <;> omega
theorem Bef.asy (Q : Nat → List Ed) (x y : Nat) (h : Bef Q x y) : ¬ Bef Q y x := fun h2 => by rcases h with h | h <;> rcases h2 with h2 | h2 <;> omega

/-- The rows of n edges, in order. -/
def ordN (Q : Nat → List Ed) (n N : Nat) : List Nat := (List.range N).filter fun i => decide ((Q i).length = n)
/-- The rows of more than 256 - d edges, in the order in which they are laid. -/
def ordD (Q : Nat → List Ed) (N : Nat) : Nat → List Nat
  | 0 => []
  | d + 1 => ordD Q N d ++ ordN Q (256 - d) N
def stepO (Q : Nat → List Ed) (s : St) (i : Nat) : St := layRow s i (Q i)
theorem ordN_mem (Q : Nat → List Ed) (n N i : Nat) : i ∈ ordN Q n N ↔ i < N ∧ (Q i).length = n := by unfold ordN; simp
theorem layN_fold (Q : Nat → List Ed) (n : Nat) (s : St) : ∀ k, layN Q n s k = (ordN Q n k).foldl (stepO Q) s
  | 0 => rfl
  | k + 1 => by
    have e : ordN Q n (k + 1) = ordN Q n k ++ (if (Q k).length = n then [k] else []) := by
      unfold ordN
      rw [List.range_succ, List.filter_append]
      by_cases h : (Q k).length = n <;> simp [h]
    rw [e, List.foldl_append, ← layN_fold Q n s k]
    by_cases h : (Q k).length = n
    · rw [layN_in _ _ _ _ h, if_pos h]; rfl
    · rw [layN_out _ _ _ _ h, if_neg h]; rfl
theorem layD_fold (Q : Nat → List Ed) (N : Nat) : ∀ d, layD Q N d = (ordD Q N d).foldl (stepO Q) ⟨List.replicate N 0, [], []⟩
  | 0 => rfl
  | d + 1 => by
    show layN Q (256 - d) (layD Q N d) N = _
    rw [layN_fold, layD_fold Q N d]
    show _ = (ordD Q N d ++ ordN Q (256 - d) N).foldl _ _
    rw [List.foldl_append]
theorem ordD_mem (Q : Nat → List Ed) (N i : Nat) : ∀ d, d ≤ 256 → (i ∈ ordD Q N d ↔ i < N ∧ 256 - d < (Q i).length ∧ (Q i).length ≤ 256)
  | 0, _ => by
    show i ∈ [] ↔ _
    simp
  | d + 1, hd => by
    show i ∈ ordD Q N d ++ ordN Q (256 - d) N ↔ _
    rw [List.mem_append, ordD_mem Q N i d (by omega), ordN_mem]
    constructor
    · rintro (h | h) <;> omega
    · intro h
      by_cases h2 : (Q i).length = 256 - d
      · exact .inr ⟨h.1, h2⟩
      · exact .inl ⟨h.1, by omega, h.2.2⟩
theorem ordN_pw (Q : Nat → List Ed) (n N : Nat) : (ordN Q n N).Pairwise (Bef Q) := by
  have h1 : (ordN Q n N).Pairwise (· < ·) := by
    unfold ordN
    exact List.Pairwise.filter _ List.pairwise_lt_range
  refine List.Pairwise.imp_of_mem ?_ h1
  intro a b ha hb hab
  rw [ordN_mem] at ha hb
  exact .inr ⟨by omega, hab⟩
theorem ordD_pw (Q : Nat → List Ed) (N : Nat) : ∀ d, d ≤ 256 → (ordD Q N d).Pairwise (Bef Q)
  | 0, _ => List.Pairwise.nil
  | d + 1, hd => by
    show (ordD Q N d ++ ordN Q (256 - d) N).Pairwise _
    rw [List.pairwise_append]
    refine ⟨ordD_pw Q N d (by omega), ordN_pw _ _ _, fun a ha b hb => ?_⟩
    rw [ordD_mem Q N a d (by omega)] at ha
    rw [ordN_mem] at hb
    exact .inl (by omega)
/-- All rows, those of no edges last. -/
def ordA (Q : Nat → List Ed) (N : Nat) : List Nat := ordD Q N 256 ++ ordN Q 0 N
theorem ordA_pw (Q : Nat → List Ed) (N : Nat) : (ordA Q N).Pairwise (Bef Q) := by
  unfold ordA
  rw [List.pairwise_append]
  refine ⟨ordD_pw Q N 256 (Nat.le_refl _), ordN_pw _ _ _, fun a ha b hb => ?_⟩
  rw [ordD_mem Q N a 256 (Nat.le_refl _)] at ha
  rw [ordN_mem] at hb
  exact .inl (by omega)
theorem ordA_mem (Q : Nat → List Ed) (N i : Nat) (hQ : ∀ i, i < N → (Q i).length ≤ 256) : i ∈ ordA Q N ↔ i < N := by
  unfold ordA
  rw [List.mem_append, ordD_mem Q N i 256 (Nat.le_refl _), ordN_mem]
  constructor
  · rintro (h | h) <;> omega
  · intro h
    have := hQ i h
    by_cases h2 : (Q i).length = 0
    · exact .inr ⟨h, h2⟩
    · exact .inl ⟨h, by omega, this⟩

theorem baseOf_nil (ow : List Int) : baseOf ow [] = 0 := baseOf_eq (fun e h => absurd h (by simp)) (fun c h => absurd h (by omega))
theorem set_zero {l : List Int} {i : Nat} (h : l.getD i 0 = 0) : l.set i 0 = l := by
  apply List.ext_getElem?
  intro k
  rw [List.getElem?_set]
  by_cases e : i = k
  · subst e
    by_cases hi : i < l.length
    · simp only [if_pos, hi]
      rw [List.getD_eq_getElem?_getD, List.getElem?_eq_getElem hi] at h
      rw [List.getElem?_eq_getElem hi]
      simp at h
      simp [h]
    · simp [hi]
  · simp [e]
theorem layRow_nil {s : St} {i : Nat} (h : s.bs.getD i 0 = 0) : layRow s i [] = s := by
  unfold layRow
  simp only [baseOf_nil]
  have e : s.bs.set i ((0 : Nat) : Int) = s.bs := set_zero h
  rw [e]
  rfl
theorem fold_bs (Q : Nat → List Ed) (i : Nat) : ∀ (l : List Nat) (s : St), i ∉ l → (l.foldl (stepO Q) s).bs.getD i 0 = s.bs.getD i 0
  | [], _, _ => rfl
  | a :: l, s, h => by
    rw [List.foldl_cons, fold_bs Q i l _ fun h2 => h (by simp [h2])]
    show (s.bs.set a _).getD i 0 = _
    rw [List.getD_eq_getElem?_getD, List.getD_eq_getElem?_getD, List.getElem?_set, if_neg fun e => h (by simp [e])]
theorem fold_nil (Q : Nat → List Ed) : ∀ (l : List Nat) (s : St), (∀ i ∈ l, Q i = [] ∧ s.bs.getD i 0 = 0) → l.foldl (stepO Q) s = s
  | [], _, _ => rfl
  | a :: l, s, h => by
    have ha := h a (by simp)
    have e : stepO Q s a = s := by unfold stepO; rw [ha.1]; exact layRow_nil ha.2
    rw [List.foldl_cons, e]
    exact fold_nil Q l s fun i hi => h i (by simp [hi])
/-- All rows laid in order: what the document's Lay comes to. -/
theorem lay_ord (Q : Nat → List Ed) (N : Nat) : (ordA Q N).foldl (stepO Q) ⟨List.replicate N 0, [], []⟩ = lay Q N := by
  unfold ordA lay
  rw [List.foldl_append, layD_fold]
  refine fold_nil Q _ _ fun i hi => ?_
  rw [ordN_mem] at hi
  refine ⟨List.eq_nil_of_length_eq_zero hi.2, ?_⟩
  rw [fold_bs Q i _ _ fun h => by rw [ordD_mem Q N i 256 (Nat.le_refl _)] at h; omega]
  rw [List.getD_eq_getElem?_getD, List.getElem?_replicate]
  split <;> rfl

/-- A number below N, or 0. -/
def clN (N n : Nat) : Nat := if n < N then n else 0
theorem clN_at {N n : Nat} (h : n < N) : clN N n = n := if_pos h
theorem clN_lt {N : Nat} (n : Nat) (h : 0 < N) : clN N n < N := by unfold clN; split <;> omega
/-- How the numbers of rows are compared. -/
def cfE (Q : Nat → List Ed) (N x y : Nat) : Int := cmp3 ((Q (clN N y)).length : Nat) ((Q (clN N x)).length : Nat)
theorem cfE_lt (Q : Nat → List Ed) (N x y : Nat) : ltOf (cfE Q N) x y = true ↔ (Q (clN N y)).length < (Q (clN N x)).length := by
  unfold ltOf cfE cmp3
  rw [decide_eq_true_eq]
  split
  · omega
  · split <;> omega
theorem cfE_ge (Q : Nat → List Ed) (N x y : Nat) : ltOf (cfE Q N) x y = false ↔ (Q (clN N x)).length ≤ (Q (clN N y)).length := by
  have := cfE_lt Q N x y
  cases h : ltOf (cfE Q N) x y <;> simp [h] at this ⊢ <;> omega
theorem cfE_swo (Q : Nat → List Ed) (N : Nat) : SWO (ltOf (cfE Q N)) where
  irrefl x := by rw [cfE_ge]; exact Nat.le_refl _
  trans x y z h1 h2 := by rw [cfE_lt] at *; omega
  ntrans x y z h1 h2 := by rw [cfE_ge] at *; omega
theorem range_get {N i : Nat} (h : i < N) : (Array.range N)[i]! = i := by
  rw [getElem!_pos _ _ (by simpa using h)]
  simp
theorem range_stb (lt : Nat → Nat → Bool) (N : Nat) : Stb lt (Array.range N) := fun i j hij hj _ _ => by
  have hj' : j < N := by simpa using hj
  rw [range_get hj', range_get (by omega)]
  exact hij
/-- What the sort leaves of 0, 1, .., N - 1. -/
theorem sorted_ord (Q : Nat → List Ed) (N : Nat) (d : Array Nat) (hQ : ∀ i, i < N → (Q i).length ≤ 256) (h : Merged (ltOf (cfE Q N)) 0 N (Array.range N) d) : d.toList = ordA Q N := by
  have hs : d.size = N := by rw [h.perm.1]; simp
  have hp : d.toList.Perm (List.range N) := by
    have h3 := h.perm.2.2
    have e1 : d.extract 0 N = d := by rw [← hs]; exact Array.extract_size
    have e2 : (Array.range N).extract 0 N = Array.range N := by
      have : N = (Array.range N).size := by simp
      conv => lhs; rw [show (Array.range N).extract 0 N = (Array.range N).extract 0 (Array.range N).size by rw [← this]]
      exact Array.extract_size
    rw [e1, e2] at h3
    simpa using h3
  have hlt : ∀ i, i < N → d[i]! < N := fun i hi => by
    have : d[i]! ∈ d.toList := by rw [getElem!_pos _ _ (by omega)]; simp
    have := hp.mem_iff.1 this
    simpa using this
  refine pw_unique (Bef.irr Q) (Bef.asy Q) _ _ ?_ (ordA_pw Q N) fun x => ?_
  · rw [List.pairwise_iff_getElem]
    intro i j hi hj hij
    have hj' : j < N := by simpa [hs] using hj
    have h1 := h.sorted i j (Nat.zero_le _) hij hj'
    rw [cfE_ge, clN_at (hlt i (by omega)), clN_at (hlt j hj')] at h1
    have ei : d.toList[i] = d[i]! := by rw [getElem!_pos _ _ (by omega)]; simp
    have ej : d.toList[j] = d[j]! := by rw [getElem!_pos _ _ (by omega)]; simp
    rw [ei, ej]
    by_cases he : (Q d[j]!).length < (Q d[i]!).length
    · exact .inl he
    · refine .inr ⟨by omega, h.stb i j hij (by omega) ?_ ?_⟩
      · rw [cfE_ge, clN_at (hlt i (by omega)), clN_at (hlt j hj')]; omega
      · rw [cfE_ge, clN_at (hlt i (by omega)), clN_at (hlt j hj')]; omega
  · rw [hp.mem_iff, ordA_mem Q N x hQ]
    simp

end Go.Proofs.Ytgmljpkenipgjaa.Pk

/-
  pack: what laid rows are like, pure: each edge is told, nothing else is, and no row could have had a lesser base.
-/
namespace Go.Proofs.Ytgmljpkenipgjaa.Pk

theorem getD_pad (z : Int) (l : List Int) (n q : Nat) : (pad z l n).getD q z = l.getD q z := by
  unfold pad
  rw [List.getD_eq_getElem?_getD, List.getD_eq_getElem?_getD]
  by_cases h : q < l.length
  · rw [List.getElem?_append_left h]
  · rw [List.getElem?_append_right (by omega), List.getElem?_eq_none (l := l) (by omega), List.getElem?_replicate]
    split <;> rfl
theorem getD_setP (z : Int) (l : List Int) (k q : Nat) (v : Int) (hk : k < l.length) : (l.set k v).getD q z = if q = k then v else l.getD q z := by
  rw [List.getD_eq_getElem?_getD, List.getD_eq_getElem?_getD, List.getElem?_set]
  by_cases h : k = q
  · subst h; simp [hk]
  · have h2 : ¬ q = k := fun e => h e.symm
    simp [h, h2]
theorem getD_in (z y : Int) {l : List Int} {q : Nat} (h : q < l.length) : l.getD q z = l.getD q y := by
  rw [List.getD_eq_getElem?_getD, List.getD_eq_getElem?_getD, List.getElem?_eq_getElem h]; rfl
theorem getD_out (z : Int) {l : List Int} {q : Nat} (h : l.length ≤ q) : l.getD q z = z := by
  rw [List.getD_eq_getElem?_getD, List.getElem?_eq_none h]; rfl

theorem layE_at (i b : Nat) (s : List Int × List Int) (e : Ed) (q : Nat) : (layE i b s e).1.getD q (-1) = (if q = b + e.1.toNat then (i : Int) else s.1.getD q (-1)) ∧ (layE i b s e).2.getD q 0 = (if q = b + e.1.toNat then e.2 else s.2.getD q 0) := by
  unfold layE
  simp only
  rw [getD_setP _ _ _ _ _ (by rw [pad_len]; omega), getD_setP _ _ _ _ _ (by rw [pad_len]; omega), getD_pad, getD_pad]
  exact ⟨rfl, rfl⟩
/-- Places of their own. -/
def Plc (l : List Ed) : Prop := (∀ e ∈ l, 0 ≤ e.1) ∧ (l.map (·.1)).Nodup
theorem Plc.tail {e : Ed} {l : List Ed} (h : Plc (e :: l)) : Plc l ∧ ∀ x ∈ l, x.1.toNat ≠ e.1.toNat := by
  obtain ⟨h1, h2⟩ := h
  rw [List.map_cons, List.nodup_cons] at h2
  refine ⟨⟨fun x hx => h1 x (by simp [hx]), h2.2⟩, fun x hx e2 => h2.1 ?_⟩
  rw [List.mem_map]
  refine ⟨x, hx, ?_⟩
  have a1 := h1 x (by simp [hx])
  have a2 := h1 e (by simp)
  omega
theorem layR_off (i b : Nat) : ∀ (l : List Ed) (s : List Int × List Int) (q : Nat), (∀ e ∈ l, q ≠ b + e.1.toNat) → (layR i b s l).1.getD q (-1) = s.1.getD q (-1) ∧ (layR i b s l).2.getD q 0 = s.2.getD q 0
  | [], _, _, _ => ⟨rfl, rfl⟩
  | e :: l, s, q, h => by
    have h1 := layR_off i b l (layE i b s e) q fun x hx => h x (by simp [hx])
    have h2 := layE_at i b s e q
    rw [if_neg (h e (by simp)), if_neg (h e (by simp))] at h2
    exact ⟨h1.1.trans h2.1, h1.2.trans h2.2⟩
theorem layR_on (i b : Nat) : ∀ (l : List Ed) (s : List Int × List Int), Plc l → ∀ e ∈ l, (layR i b s l).1.getD (b + e.1.toNat) (-1) = i ∧ (layR i b s l).2.getD (b + e.1.toNat) 0 = e.2
  | [], _, _, _, h => by cases h
  | x :: l, s, hp, e, h => by
    obtain ⟨p1, p2⟩ := hp.tail
    rcases List.mem_cons.1 h with rfl | h
    · have h1 := layR_off i b l (layE i b s e) (b + e.1.toNat) fun y hy => by have := p2 y hy; omega
      have h2 := layE_at i b s e (b + e.1.toNat)
      rw [if_pos rfl, if_pos rfl] at h2
      exact ⟨h1.1.trans h2.1, h1.2.trans h2.2⟩
    · exact layR_on i b l (layE i b s x) p1 e h
theorem layR_lens (i b : Nat) : ∀ (l : List Ed) (s : List Int × List Int), s.1.length = s.2.length → (layR i b s l).1.length = (layR i b s l).2.length ∧ s.1.length ≤ (layR i b s l).1.length ∧ (∀ e ∈ l, b + e.1.toNat < (layR i b s l).1.length) ∧ ((layR i b s l).1.length = s.1.length ∨ ∃ e ∈ l, (layR i b s l).1.length = b + e.1.toNat + 1)
  | [], _, h => ⟨h, Nat.le_refl _, fun e he => (by cases he), .inl rfl⟩
  | x :: l, s, h => by
    obtain ⟨l1, l2⟩ := layE_len (i := i) (b := b) (s := s) x h
    obtain ⟨h1, h2, h3, h4⟩ := layR_lens i b l (layE i b s x) (by rw [l1, l2])
    have e : layR i b s (x :: l) = layR i b (layE i b s x) l := rfl
    rw [e]
    have hx1 : s.1.length ≤ (layE i b s x).1.length := by rw [l1]; exact Nat.le_max_left _ _
    have hx2 : b + x.1.toNat + 1 ≤ (layE i b s x).1.length := by rw [l1]; exact Nat.le_max_right _ _
    refine ⟨h1, Nat.le_trans hx1 h2, fun y hy => ?_, ?_⟩
    · rcases List.mem_cons.1 hy with e2 | hy
      · rw [e2]; exact Nat.lt_of_lt_of_le (Nat.lt_succ_self _) (Nat.le_trans hx2 h2)
      · exact h3 y hy
    · rcases h4 with h4 | ⟨y, hy, h4⟩
      · rw [h4, l1]
        by_cases hm : b + x.1.toNat + 1 ≤ s.1.length
        · exact .inl (by omega)
        · exact .inr ⟨x, by simp, by omega⟩
      · exact .inr ⟨y, by simp [hy], h4⟩

/-- How many below m are owned. -/
def cntO (f : Nat → Int) : Nat → Nat
  | 0 => 0
  | m + 1 => cntO f m + if 0 ≤ f m then 1 else 0
theorem cntO_le (f : Nat → Int) : ∀ m, cntO f m ≤ m
  | 0 => Nat.le_refl _
  | m + 1 => by
    show cntO f m + _ ≤ _
    have := cntO_le f m
    split <;> omega
theorem cntO_ext {f g : Nat → Int} : ∀ m, (∀ q, q < m → f q = g q) → cntO f m = cntO g m
  | 0, _ => rfl
  | m + 1, h => by
    show cntO f m + _ = cntO g m + _
    rw [cntO_ext m fun q hq => h q (by omega), h m (by omega)]
theorem cntO_upd {f : Nat → Int} {p : Nat} {v : Int} (hv : 0 ≤ v) (hf : f p < 0) : ∀ m, p < m → cntO (fun q => if q = p then v else f q) m = cntO f m + 1
  | 0, h => by omega
  | m + 1, h => by
    show cntO (fun q => if q = p then v else f q) m + _ = cntO f m + _ + 1
    by_cases e : m = p
    · subst e
      rw [cntO_ext (g := f) m fun q hq => if_neg (by omega)]
      simp only [if_pos]
      rw [if_pos hv, if_neg (by omega)]
    · rw [cntO_upd hv hf m (by omega)]
      simp only [if_neg e]
      omega
theorem layR_cnt (i b : Nat) : ∀ (l : List Ed) (s : List Int × List Int), s.1.length = s.2.length → Plc l → (∀ e ∈ l, s.1.getD (b + e.1.toNat) (-1) < 0) → ∀ M, (layR i b s l).1.length ≤ M → cntO (fun q => (layR i b s l).1.getD q (-1)) M = cntO (fun q => s.1.getD q (-1)) M + l.length
  | [], _, _, _, _, _, _ => rfl
  | x :: l, s, hs, hp, hu, M, hM => by
    obtain ⟨p1, p2⟩ := hp.tail
    obtain ⟨l1, l2⟩ := layE_len (i := i) (b := b) (s := s) x hs
    have h1 := layR_cnt i b l (layE i b s x) (by rw [l1, l2]) p1 (fun e he => by
      rw [(layE_at i b s x _).1, if_neg (by have := p2 e he; omega)]
      exact hu e (by simp [he])) M hM
    have h2 := (layR_lens i b l (layE i b s x) (by rw [l1, l2])).2.1
    have e : layR i b s (x :: l) = layR i b (layE i b s x) l := rfl
    rw [e] at hM ⊢
    rw [h1]
    have h3 : cntO (fun q => (layE i b s x).1.getD q (-1)) M = cntO (fun q => if q = b + x.1.toNat then (i : Int) else s.1.getD q (-1)) M := cntO_ext M fun q _ => (layE_at i b s x q).1
    rw [h3, cntO_upd (f := fun q => s.1.getD q (-1)) (by omega) (hu x (by simp)) M (by omega), List.length_cons]
    omega

/-- The base of a row. -/
def bsN (s : St) (i : Nat) : Nat := (s.bs.getD i 0).toNat
/-- What is so of rows while they are laid. -/
structure FitI (R : Nat → List Ed) (P : List Nat) (s : St) : Prop where
  len : s.ow.length = s.va.length
  nn : ∀ i, 0 ≤ s.bs.getD i 0
  top : ∀ i, s.bs.getD i 0 ≤ s.ow.length
  last : 0 < s.ow.length → 0 ≤ s.ow.getD (s.ow.length - 1) (-1)
  neg : ∀ q, s.ow.getD q (-1) < 0 → s.va.getD q 0 = 0
  own : ∀ q, 0 ≤ s.ow.getD q (-1) → ∃ i ∈ P, ∃ e ∈ R i, s.ow.getD q (-1) = i ∧ q = bsN s i + e.1.toNat
  edge : ∀ i ∈ P, ∀ e ∈ R i, s.ow.getD (bsN s i + e.1.toNat) (-1) = i ∧ s.va.getD (bsN s i + e.1.toNat) 0 = e.2 ∧ bsN s i + e.1.toNat < s.ow.length
  way : ∀ i ∈ P, ∀ c, c < bsN s i → ∃ e ∈ R i, ∃ o : Nat, o ∈ P ∧ Bef R o i ∧ s.ow.getD (c + e.1.toNat) (-1) = o ∧ c + e.1.toNat < s.ow.length
  cnt : ∀ M, s.ow.length ≤ M → cntO (fun q => s.ow.getD q (-1)) M = (P.map fun i => (R i).length).sum

theorem FitI.start (R : Nat → List Ed) (N : Nat) : FitI R [] ⟨List.replicate N 0, [], []⟩ := by
  refine ⟨rfl, fun i => ?_, fun i => ?_, fun h => (by cases h), fun q _ => rfl, fun q h => ?_, fun i h => (by cases h), fun i h => (by cases h), fun M _ => ?_⟩
  · rw [List.getD_eq_getElem?_getD, List.getElem?_replicate]
    split <;> decide
  · rw [List.getD_eq_getElem?_getD, List.getElem?_replicate]
    split
    · exact Int.le_refl 0
    · exact Int.le_refl 0
  · exact absurd h (by show ¬ (0 : Int) ≤ ([] : List Int).getD q (-1); simp)
  · show cntO (fun q => ([] : List Int).getD q (-1)) M = 0
    induction M with
    | zero => rfl
    | succ m ih =>
      show cntO _ m + _ = 0
      rw [ih (Nat.zero_le _), if_neg (by show ¬ (0 : Int) ≤ ([] : List Int).getD m (-1); simp)]
theorem FitI.row {R : Nat → List Ed} {P : List Nat} {s : St} {i : Nat} (h : FitI R P s) (hi : i ∉ P) (hb : ∀ o ∈ P, Bef R o i) (hl : Plc (R i)) (hlt : i < s.bs.length) : FitI R (P ++ [i]) (layRow s i (R i)) := by
  obtain ⟨b, hbe⟩ : ∃ b, b = baseOf s.ow (R i) := ⟨_, rfl⟩
  have hfit : Fits s.ow (R i) b := by rw [hbe]; exact baseOf_fits _ _
  have hst : layRow s i (R i) = ⟨s.bs.set i (b : Int), (layR i b (s.ow, s.va) (R i)).1, (layR i b (s.ow, s.va) (R i)).2⟩ := by rw [hbe]; rfl
  obtain ⟨n1, n2, n3, n4⟩ := layR_lens i b (R i) (s.ow, s.va) h.len
  have hun : ∀ e ∈ R i, s.ow.getD (b + e.1.toNat) (-1) < 0 := fun e he => by
    by_cases h1 : b + e.1.toNat < s.ow.length
    · have h2 := hfit e he
      rw [getD_in 0 (-1) h1] at h2
      omega
    · rw [getD_out (-1) (by omega)]; decide
  have hon := layR_on i b (R i) (s.ow, s.va) hl
  have hoff := layR_off i b (R i) (s.ow, s.va)
  have hbs : ∀ j, (s.bs.set i (b : Int)).getD j 0 = if j = i then (b : Int) else s.bs.getD j 0 := fun j => getD_setP 0 _ _ _ _ hlt
  have hbi : bsN (layRow s i (R i)) i = b := by
    unfold bsN
    rw [hst]
    show ((s.bs.set i (b : Int)).getD i 0).toNat = b
    rw [hbs, if_pos rfl]; omega
  have hbj : ∀ j, j ≠ i → bsN (layRow s i (R i)) j = bsN s j := fun j hj => by
    unfold bsN
    rw [hst]
    show ((s.bs.set i (b : Int)).getD j 0).toNat = _
    rw [hbs, if_neg hj]
  have hne : ∀ j ∈ P, j ≠ i := fun j hj e => hi (by rw [← e]; exact hj)
  have hw : (layRow s i (R i)).ow = (layR i b (s.ow, s.va) (R i)).1 := by rw [hst]
  have hv : (layRow s i (R i)).va = (layR i b (s.ow, s.va) (R i)).2 := by rw [hst]
  -- what was owned stays
  have hkeep : ∀ q, 0 ≤ s.ow.getD q (-1) → (layR i b (s.ow, s.va) (R i)).1.getD q (-1) = s.ow.getD q (-1) ∧ (layR i b (s.ow, s.va) (R i)).2.getD q 0 = s.va.getD q 0 := fun q hq => hoff q fun e he e2 => by
    have := hun e he
    rw [← e2] at this
    omega
  refine ⟨by rw [hw, hv]; exact n1, fun j => ?_, fun j => ?_, fun hp => ?_, fun q hq => ?_, fun q hq => ?_, fun j hj e he => ?_, fun j hj c hc => ?_, fun M hM => ?_⟩
  · rw [hst]
    show 0 ≤ (s.bs.set i (b : Int)).getD j 0
    rw [hbs]
    split
    · omega
    · exact h.nn j
  · rw [hst]
    show (s.bs.set i (b : Int)).getD j 0 ≤ ((layR i b (s.ow, s.va) (R i)).1.length : Int)
    have n2' : s.ow.length ≤ (layR i b (s.ow, s.va) (R i)).1.length := n2
    rw [hbs]
    split
    · have := baseOf_le s.ow (R i)
      omega
    · have := h.top j
      omega
  · rw [hw] at hp ⊢
    rcases n4 with n4 | ⟨e, he, n4⟩
    · have n4' : (layR i b (s.ow, s.va) (R i)).1.length = s.ow.length := n4
      have h1 := h.last (by omega)
      rw [n4', (hkeep _ h1).1]
      exact h1
    · rw [n4, show b + e.1.toNat + 1 - 1 = b + e.1.toNat by omega, (hon e he).1]
      omega
  · rw [hw] at hq
    rw [hv]
    have hq2 : ∀ e ∈ R i, q ≠ b + e.1.toNat := fun e he e2 => by
      rw [e2, (hon e he).1] at hq
      omega
    rw [(hoff q hq2).2]
    rw [(hoff q hq2).1] at hq
    exact h.neg q hq
  · rw [hw] at hq ⊢
    by_cases hq2 : ∃ e ∈ R i, q = b + e.1.toNat
    · obtain ⟨e, he, e2⟩ := hq2
      exact ⟨i, by simp, e, he, by rw [e2]; exact (hon e he).1, by rw [hbi]; exact e2⟩
    · have hq3 : ∀ e ∈ R i, q ≠ b + e.1.toNat := fun e he e2 => hq2 ⟨e, he, e2⟩
      rw [(hoff q hq3).1] at hq ⊢
      obtain ⟨j, hj, e, he, h1, h2⟩ := h.own q hq
      exact ⟨j, by simp [hj], e, he, h1, by rw [hbj j (hne j hj)]; exact h2⟩
  · rw [hw, hv]
    rcases List.mem_append.1 hj with hj | hj
    · obtain ⟨h1, h2, h3⟩ := h.edge j hj e he
      rw [hbj j (hne j hj)]
      have h4 := hkeep (bsN s j + e.1.toNat) (by rw [h1]; omega)
      have n2' : s.ow.length ≤ (layR i b (s.ow, s.va) (R i)).1.length := n2
      exact ⟨by rw [h4.1, h1], by rw [h4.2, h2], by omega⟩
    · have : j = i := by simpa using hj
      subst this
      rw [hbi]
      exact ⟨(hon e he).1, (hon e he).2, n3 e he⟩
  · rw [hw]
    rcases List.mem_append.1 hj with hj | hj
    · rw [hbj j (hne j hj)] at hc
      obtain ⟨e, he, o, h1, h2, h3, h4⟩ := h.way j hj c hc
      have n2' : s.ow.length ≤ (layR i b (s.ow, s.va) (R i)).1.length := n2
      exact ⟨e, he, o, by simp [h1], h2, by rw [(hkeep _ (by rw [h3]; omega)).1, h3], by omega⟩
    · have : j = i := by simpa using hj
      subst this
      rw [hbi] at hc
      have h1 : ¬ Fits s.ow (R j) c := baseOf_least _ _ c (by rw [← hbe]; exact hc)
      have h2 : ∃ e ∈ R j, c + e.1.toNat < s.ow.length ∧ 0 ≤ s.ow.getD (c + e.1.toNat) 0 := by
        by_cases hx : ∃ e ∈ R j, c + e.1.toNat < s.ow.length ∧ 0 ≤ s.ow.getD (c + e.1.toNat) 0
        · exact hx
        · exact absurd (fun e he h3 => hx ⟨e, he, h3⟩) h1
      obtain ⟨e, he, h3, h4⟩ := h2
      rw [getD_in 0 (-1) h3] at h4
      obtain ⟨o, ho, _, _, h5, _⟩ := h.own _ h4
      have n2' : s.ow.length ≤ (layR j b (s.ow, s.va) (R j)).1.length := n2
      exact ⟨e, he, o, by simp [ho], hb o ho, by rw [(hkeep _ h4).1, h5], by omega⟩
  · rw [hw] at hM ⊢
    rw [layR_cnt i b (R i) (s.ow, s.va) h.len hl hun M hM]
    have n2' : s.ow.length ≤ (layR i b (s.ow, s.va) (R i)).1.length := n2
    have h1 := h.cnt M (by omega)
    have h2 : cntO (fun q => (s.ow, s.va).1.getD q (-1)) M = cntO (fun q => s.ow.getD q (-1)) M := rfl
    rw [h2, h1, List.map_append, List.sum_append]
    simp

/-- How many edges the first n rows have. -/
def sumL (R : Nat → List Ed) : Nat → Nat
  | 0 => 0
  | n + 1 => sumL R n + (R n).length
theorem sumL_range (R : Nat → List Ed) : ∀ n, ((List.range n).map fun i => (R i).length).sum = sumL R n
  | 0 => rfl
  | n + 1 => by
    rw [List.range_succ, List.map_append, List.sum_append, sumL_range R n]
    simp [sumL]
theorem take_snocX (L : List Nat) (k : Nat) (h : k < L.length) : ∃ x, x ∈ L ∧ L.take (k + 1) = L.take k ++ [x] := by
  refine ⟨L[k]'h, List.getElem_mem _, ?_⟩
  rw [List.take_add_one, List.getElem?_eq_getElem h]
  rfl
theorem fit_fold (R : Nat → List Ed) (N : Nat) (hR : ∀ i, i < N → IsRow (R i)) : ∀ k, k ≤ (ordA R N).length → FitI R ((ordA R N).take k) (((ordA R N).take k).foldl (stepO R) ⟨List.replicate N 0, [], []⟩) ∧ (((ordA R N).take k).foldl (stepO R) ⟨List.replicate N 0, [], []⟩).bs.length = N
  | 0, _ => by
    rw [List.take_zero]
    exact ⟨FitI.start R N, by show (List.replicate N (0 : Int)).length = N; exact List.length_replicate⟩
  | k + 1, hk => by
    obtain ⟨h1, h2⟩ := fit_fold R N hR k (Nat.le_of_succ_le hk)
    obtain ⟨x, hx, e⟩ := take_snocX (ordA R N) k hk
    have hpw : ((ordA R N).take k ++ [x]).Pairwise (Bef R) := by rw [← e]; exact (ordA_pw R N).sublist (List.take_sublist _ _)
    have hb : ∀ o ∈ (ordA R N).take k, Bef R o x := fun o ho => (List.pairwise_append.1 hpw).2.2 o ho x (by simp)
    have hxi : x < N := by
      exact (ordA_mem R N x fun i hi => (hR i hi).1).1 hx
    rw [e, List.foldl_append]
    refine ⟨h1.row (fun h => Bef.irr R x (hb x h)) hb ⟨fun e he => ((hR x hxi).2.1 e he).1, (hR x hxi).2.2⟩ (by rw [h2]; exact hxi), ?_⟩
    show (List.set _ _ _).length = N
    rw [List.length_set]
    exact h2
/-- What laid rows are like. -/
theorem fit_all (R : Nat → List Ed) (N : Nat) (hR : ∀ i, i < N → IsRow (R i)) : FitI R (ordA R N) (lay R N) ∧ (lay R N).bs.length = N ∧ cntO (fun q => (lay R N).ow.getD q (-1)) (lay R N).ow.length = sumL R N := by
  have h := fit_fold R N hR (ordA R N).length (Nat.le_refl _)
  rw [List.take_length, lay_ord] at h
  refine ⟨h.1, h.2, ?_⟩
  rw [h.1.cnt _ (Nat.le_refl _), ← sumL_range]
  have h1 : (ordA R N).Nodup := (ordA_pw R N).imp fun {a b} h e => by subst e; exact Bef.irr R a h
  have h2 : (ordA R N).Perm (List.range N) := by
    rw [List.perm_ext_iff_of_nodup h1 List.nodup_range]
    intro x
    rw [ordA_mem R N x fun i hi => (hR i hi).1, List.mem_range]
  exact (h2.map _).sum_nat
section
variable {R : Nat → List Ed} {N : Nat} {s : St}
/-- Each edge is told. -/
theorem FitI.told (h : FitI R (ordA R N) s) (hb : s.bs.length = N) (hR : ∀ i, i < N → IsRow (R i)) {i : Nat} (hi : i < N) {e : Ed} (he : e ∈ R i) : atF s.bs s.va s.ow i e.1 = (e.2, true) := by
  have hm := (ordA_mem R N i fun i hi => (hR i hi).1).2 hi
  obtain ⟨h1, h2, h3⟩ := h.edge i hm e he
  have h4 := ((hR i hi).2.1 e he).1
  have h5 := h.nn i
  have h6 := h.len
  have hB : s.bs.getD i 0 = (bsN s i : Int) := by unfold bsN; omega
  have hq : ((bsN s i : Int) + e.1).toNat = bsN s i + e.1.toNat := by omega
  have hmin : min s.va.length s.ow.length = s.ow.length := by omega
  have hi2 : ((i : Nat) : Int).toNat = i := rfl
  unfold atF
  rw [hi2, hB, hq, hmin, if_pos ⟨by omega, by omega, h4, by omega, by omega, by omega, by rw [getD_in 0 (-1) h3]; exact h1⟩, h2]
/-- Nothing else is. -/
theorem FitI.not (h : FitI R (ordA R N) s) (hR : ∀ i, i < N → IsRow (R i)) {i : Nat} (hi : i < N) {p : Int} (hp : ∀ e ∈ R i, e.1 ≠ p) : atF s.bs s.va s.ow i p = (0, false) := by
  unfold atF
  refine if_neg fun hc => ?_
  obtain ⟨c1, c2, c3, c4, c5, c6, c7⟩ := hc
  have hi2 : ((i : Nat) : Int).toNat = i := rfl
  rw [hi2] at c4 c5 c6 c7
  have hB : s.bs.getD i 0 = (bsN s i : Int) := by unfold bsN; omega
  rw [hB] at c5 c6 c7
  have h6 := h.len
  obtain ⟨q, hq⟩ : ∃ q, q = ((bsN s i : Int) + p).toNat := ⟨_, rfl⟩
  have hqe : q = bsN s i + p.toNat := by omega
  have hql : q < s.ow.length := by omega
  rw [← hq, getD_in 0 (-1) hql] at c7
  obtain ⟨j, hj, e, he, h1, h2⟩ := h.own q (by rw [c7]; omega)
  have : j = i := by omega
  subst this
  have h3 := ((hR j hi).2.1 e he).1
  exact hp e he (by omega)
end

end Go.Proofs.Ytgmljpkenipgjaa.Pk
