/-
  reach: reduced, walked.
-/
import Derived.Test.YtljlkmiaemkokaaQihijnhfcaleo
namespace Go.Proofs.Ytljlkmiaemkokaa
open Go.RowKit Go.Maps Go.Shelf

attribute [local go_sem] Oper.semAt_some

theorem alloc3 (w : World) (o1 o2 o3 : Obj) : w.grownBy (((w.alloc o1).alloc o2).alloc o3) none ∧ (((w.alloc o1).alloc o2).alloc o3).heap[w.heap.size]? = some o1 ∧ (((w.alloc o1).alloc o2).alloc o3).heap[w.heap.size + 1]? = some o2 ∧ (((w.alloc o1).alloc o2).alloc o3).heap[w.heap.size + 1 + 1]? = some o3 := by
  have b1 := heap_alloc_last w o1
  have b2 := heap_alloc_last (w.alloc o1) o2
  have b3 := heap_alloc_last ((w.alloc o1).alloc o2) o3
  rw [World.size_alloc] at b2
  rw [World.size_alloc, World.size_alloc] at b3
  exact ⟨grown_trans (World.grownBy_alloc _ _ none) (grown_trans (World.grownBy_alloc _ _ none) (World.grownBy_alloc _ _ none)), (boxKept (boxKept b1 (World.grownBy_alloc _ _ none)).out (World.grownBy_alloc _ _ none)).out, (boxKept b2 (World.grownBy_alloc _ _ none)).out, b3⟩

/-- The answer of reduced. -/
def RedTold (ts : List (ByteArray × Int)) (ns : List ByteArray) (lv : List Int) (tn nn n : Nat) (st : Int) (L : Nat → Int) (R : Nat → List Int) (V : Nat → Int) (g go : Nat → Bool) (w : World) (e : Ending) (y : World) : Prop :=
  ∃ vt vn vl vp, e = .returned (.agg #[vt, vn, vl, .int .i64 (numTo tn g nn st.toNat), vp]) ∧ GramNew y w.heap.size (redGR ts ns lv tn nn n st L R V g go) vt vn vl vp ∧ w.grownBy y none

set_option maxRecDepth 100000 in
set_option maxHeartbeats 4000000 in
theorem reduced_any (ta na la pa : Option Addr) (tc nc lc pc : Nat) (ts : List (ByteArray × Int)) (ns : List ByteArray) (lv : List Int) (n : Nat) (L : Nat → Int) (R : Nat → List Int) (ra : Nat → Option Addr) (rc : Nat → Nat) (V : Nat → Int) (st : Int) (w0 w : World) (tn nn ln : Nat) (hlen : ts.length = tn ∧ ns.length = nn ∧ lv.length = ln) (hG : GAt w ta na la pa tc nc lc pc ts ns lv n L R ra rc V) (hnt : ta = none → tn = 0 ∧ tc = 0) (hnl : la = none → ln = 0 ∧ lc = 0) (cl : Bool) (hM : MayOK tn nn n st L R cl)
    (kb pb ub : Nat) (q : Nat → Nat) (c : Nat → Value) (m u : Nat) (f : Nat → Bool) (hU : UseIs w0 w kb pb ub n (tn + nn) L R ra rc V q c m u) (hB : bitsN tn nn m f) :
    Calls Try.prog 34 #[.agg #[.slice ta tn tc, .slice na nn nc, .slice la ln lc, .int .i64 st, .slice pa n pc], .agg #[.slice (some ⟨kb, 0, none⟩) n n, .pointer (some ⟨pb, 0, none⟩), .pointer (some ⟨ub, 0, none⟩)]] w fun e y => RedTold ts ns lv tn nn n st L R V (fun i => u.testBit (tn + i)) (fun k => goU tn L R f k u) w e y := by
  have hz : tn + nn ≤ 1024 := by have := hM.tmax; have := hM.nmax; omega
  have HM : Hid (MayOK tn nn n st L R cl) := hM
  have HU : Hid (UseIs w0 w kb pb ub n (tn + nn) L R ra rc V q c m u) := hU
  have HB : Hid (bitsN tn nn m f) := hB
  have HG : Hid (GAt w ta na la pa tc nc lc pc ts ns lv n L R ra rc V) := hG
  have HLN : Hid (ts.length = tn ∧ ns.length = nn ∧ lv.length = ln) := hlen
  obtain ⟨W, hW⟩ : ∃ W, W = ((w.alloc (.cells #[.slice ta tn tc, .slice na nn nc, .slice la ln lc, .int .i64 st, .slice pa n pc] 27)).alloc (.cells #[.slice (some ⟨kb, 0, none⟩) n n, .pointer (some ⟨pb, 0, none⟩), .pointer (some ⟨ub, 0, none⟩)] 53)).alloc (.cells #[.slice none 0 0, .slice none 0 0, .slice none 0 0, .int .i64 0, .slice none 0 0] 27) := ⟨_, rfl⟩
  have hWs : W.heap.size = w.heap.size + 1 + 1 + 1 := by rw [hW]; simp
  have hWb : w.grownBy W none ∧ W.heap[w.heap.size]? = some (.cells #[.slice ta tn tc, .slice na nn nc, .slice la ln lc, .int .i64 st, .slice pa n pc] 27 (0, 0)) ∧ W.heap[w.heap.size + 1]? = some (.cells #[.slice (some ⟨kb, 0, none⟩) n n, .pointer (some ⟨pb, 0, none⟩), .pointer (some ⟨ub, 0, none⟩)] 53 (0, 0)) ∧ W.heap[w.heap.size + 1 + 1]? = some (.cells #[.slice none 0 0, .slice none 0 0, .slice none 0 0, .int .i64 0, .slice none 0 0] 27 (0, 0)) := by
    rw [hW]; exact alloc3 w _ _ _
  have HCP : Hid (∀ X, w.grownBy X none → Calls Try.prog 54 #[.agg #[.slice ta tn tc, .slice none 0 0, .slice la ln lc, .int .i64 0, .slice none 0 0]] X fun e w' => ∃ ta' na' la' pa' tc' nc' lc' pc', e = .returned (.agg #[.slice ta' tn tc', .slice na' 0 nc', .slice la' ln lc', .int .i64 0, .slice pa' 0 pc']) ∧ GramNew w' X.heap.size (grOf ts [] lv 0 0 L R V) (.slice ta' tn tc') (.slice na' 0 nc') (.slice la' ln lc') (.slice pa' 0 pc') ∧ X.grownBy w' none) := fun X hX => by
    have h := copy_any ta none la none tc 0 lc 0 ts [] lv 0 L R ra rc V 0 X (hG.kept hX).two (fun h => by rw [hlen.1]; exact hnt h) (fun h => by rw [hlen.2.2]; exact hnl h) (by rw [hlen.1]; have := hM.tmax; omega) (by simp) (by omega)
    rw [hlen.1, hlen.2.2] at h
    refine h.mono ?_
    rintro e w' ⟨vt, vn, vl, vp, rfl, hN, hg⟩
    have h1 := hN.terms
    have h2 := hN.nons
    have h3 := hN.levels
    obtain ⟨rg, h4, _⟩ := hN.prods
    obtain ⟨a1, c1, e1⟩ := owns_slice h1
    obtain ⟨a2, c2, e2⟩ := owns_slice h2
    obtain ⟨a3, c3, e3⟩ := owns_slice h3
    obtain ⟨a4, c4, e4⟩ := owns_slice h4
    have e1' : vt = .slice a1 tn c1 := by rw [e1]; show Value.slice a1 ts.length c1 = _; rw [hlen.1]
    have e2' : vn = .slice a2 0 c2 := e2
    have e3' : vl = .slice a3 ln c3 := by rw [e3]; show Value.slice a3 lv.length c3 = _; rw [hlen.2.2]
    have e4' : vp = .slice a4 0 c4 := by rw [e4]; simp [grOf]
    subst e1' e2' e3' e4'
    exact ⟨a1, a2, a3, a4, c1, c2, c3, c4, rfl, hN, hg⟩
  have HWB := show Hid _ from hWb
  have HWS : Hid (W.heap.size = w.heap.size + 1 + 1 + 1) := hWs
  have HW := show Hid _ from hW
  obtain ⟨g, hgg⟩ : ∃ g : Nat → Bool, g = fun i => u.testBit (tn + i) := ⟨_, rfl⟩
  obtain ⟨go, hgo⟩ : ∃ go : Nat → Bool, go = fun k => goU tn L R f k u := ⟨_, rfl⟩
  have HGG : Hid (∀ i, g i = u.testBit (tn + i)) := fun i => by rw [hgg]
  have HGO : Hid (∀ k, go k = goU tn L R f k u) := fun k => by rw [hgo]
  rw [← hgg, ← hgo]
  clear hM hU hB hG hlen hnt hnl hW hWs hWb hgg hgo
  obtain ⟨i0, hi, hz0, hz1, hz2⟩ := info_parts infoInt1
  go_enter Try.func34, Try.ntmps34
  go_wp2_with fail
  rw [← HW.out]
  refine Calls.mono (HCP.out W HWB.out.1) ?_
  rintro e w1 ⟨ta', na', la', pa', tc', nc', lc', pc', rfl, hN1, hg1⟩
  obtain ⟨cb, hcb⟩ : ∃ cb, cb = w1.heap.size := ⟨_, rfl⟩
  have hcb3 : w.heap.size + 3 ≤ cb := by have := hg1.size; have := HWS.out; omega
  have HX1 : Hid (w.grownBy w1 none ∧ w1.heap[w.heap.size]? = some (.cells #[.slice ta tn tc, .slice na nn nc, .slice la ln lc, .int .i64 st, .slice pa n pc] 27 (0, 0)) ∧ w1.heap[w.heap.size + 1]? = some (.cells #[.slice (some ⟨kb, 0, none⟩) n n, .pointer (some ⟨pb, 0, none⟩), .pointer (some ⟨ub, 0, none⟩)] 53 (0, 0)) ∧ w1.heap[w.heap.size + 1 + 1]? = some (.cells #[.slice none 0 0, .slice none 0 0, .slice none 0 0, .int .i64 0, .slice none 0 0] 27 (0, 0))) := ⟨grown_trans HWB.out.1 hg1, (boxKept HWB.out.2.1 hg1).out, (boxKept HWB.out.2.2.1 hg1).out, (boxKept HWB.out.2.2.2 hg1).out⟩
  obtain ⟨X1, hX1⟩ : ∃ X1, X1 = w1.alloc (.cells #[.slice ta' tn tc', .slice na' 0 nc', .slice la' ln lc', .int .i64 0, .slice pa' 0 pc'] 27) := ⟨_, rfl⟩
  have hg2 : w1.grownBy X1 none := by rw [hX1]; exact World.grownBy_alloc _ _ none
  have HGM1 : Hid (GmAt X1 (w.heap.size + 3) cb (.slice ta' tn tc') (.slice na' 0 nc') (.slice la' ln lc') (.slice pa' 0 pc') 0 ts [] lv []) := by
    have hN2 := hN1.kept hg2
    have hle : w.heap.size + 3 ≤ W.heap.size := by have := HWS.out; omega
    obtain ⟨rg, h4, _⟩ := hN2.prods
    rw [grOf_len] at h4
    exact ⟨by rw [hcb, hX1]; exact heap_alloc_last w1 _, owns_lower hN2.terms hle, owns_lower hN2.nons hle, owns_lower hN2.levels hle, [], rfl, owns_lower h4 hle, fun i hi => absurd hi (Nat.not_lt_zero i)⟩
  have HVL : Hid ((Value.slice la' ln lc').ownBlock ≠ some (cb + 1)) := by
    intro h9
    have h8 := (hN1.levels.lt _ h9).2
    omega
  have HX2 : Hid (w.grownBy X1 none ∧ X1.heap[w.heap.size]? = some (.cells #[.slice ta tn tc, .slice na nn nc, .slice la ln lc, .int .i64 st, .slice pa n pc] 27 (0, 0)) ∧ X1.heap[w.heap.size + 1]? = some (.cells #[.slice (some ⟨kb, 0, none⟩) n n, .pointer (some ⟨pb, 0, none⟩), .pointer (some ⟨ub, 0, none⟩)] 53 (0, 0)) ∧ X1.heap[w.heap.size + 1 + 1]? = some (.cells #[.slice none 0 0, .slice none 0 0, .slice none 0 0, .int .i64 0, .slice none 0 0] 27 (0, 0))) := ⟨grown_trans HX1.out.1 hg2, (boxKept HX1.out.2.1 hg2).out, (boxKept HX1.out.2.2.1 hg2).out, (boxKept HX1.out.2.2.2 hg2).out⟩
  have hX1s : X1.heap.size = cb + 1 := by rw [hX1, hcb]; simp
  have hb0' : X1.cell? ⟨w.heap.size, 0, none⟩ = some (.slice ta tn tc) := by rw [cell_of_row _ _ _ _ _ _ HX2.out.2.1]; rfl
  have hb1' : X1.cell? ⟨w.heap.size, 1, none⟩ = some (.slice na nn nc) := by rw [cell_of_row _ _ _ _ _ _ HX2.out.2.1]; rfl
  have hb0 : (w1.alloc (.cells #[.slice ta' tn tc', .slice na' 0 nc', .slice la' ln lc', .int .i64 0, .slice pa' 0 pc'] 27)).cell? ⟨w.heap.size, 0, none⟩ = some (.slice ta tn tc) := by rw [← hX1]; exact hb0'
  have hb1 : (w1.alloc (.cells #[.slice ta' tn tc', .slice na' 0 nc', .slice la' ln lc', .int .i64 0, .slice pa' 0 pc'] 27)).cell? ⟨w.heap.size, 1, none⟩ = some (.slice na nn nc) := by rw [← hX1]; exact hb1'
  have HXS : Hid (X1.heap.size = cb + 1) := hX1s
  have HXE := show Hid _ from hX1
  have HCB : Hid (cb = w1.heap.size) := hcb
  have HB3 : Hid (w.heap.size + 3 ≤ X1.heap.size) := by show _ ≤ _; omega
  have HB4 : Hid (w.heap.size + 3 ≤ (w1.alloc (.cells #[.slice ta' tn tc', .slice na' 0 nc', .slice la' ln lc', .int .i64 0, .slice pa' 0 pc'] 27)).heap.size) := by rw [← hX1]; exact HB3.out
  clear hN1 hg1 hcb HX1 hg2 hX1s hX1 hb0' hb1'
  go_wp2_with (at_make; refine wpList_make_full _ rfl _ _ 24 rfl (w.heap.size + 3) 3 i0 (.int .i64 0) 1 Try.underlying24 hi hz0 hz1 .i64 .i64 _ _ (tn + nn) rfl rfl (by simp) (by simp) (by rw [hz2]; omega) (by unfold maxLen; omega) HB4.out ?_)
  intro w2 hown hgrow
  rw [← HXE.out] at hgrow
  have hnew : NumAt w2 (cb + 1) (tn + nn) (numT 0) := by
    have h9 := made_nums (w := X1) (w1 := w2) (B := w.heap.size + 3) (n := tn + nn) (by rw [HXS.out, HCB.out]; simpa [Value.cells] using hown)
    rw [HXS.out] at h9
    exact NumAt.ext h9 fun i _ => by simp [numT]
  have HRD : Hid (RdAt w w2 #[.slice ta tn tc, .slice na nn nc, .slice la ln lc, .int .i64 st, .slice pa n pc] #[.slice (some ⟨kb, 0, none⟩) n n, .pointer (some ⟨pb, 0, none⟩), .pointer (some ⟨ub, 0, none⟩)] (cb + 1) (tn + nn) (numT 0)) := ⟨grown_trans HX2.out.1 hgrow, (boxKept HX2.out.2.1 hgrow).out, (boxKept HX2.out.2.2.1 hgrow).out, (boxKept HX2.out.2.2.2 hgrow).out, hnew, by omega⟩
  have HGM : Hid (GmAt w2 (w.heap.size + 3) cb (.slice ta' tn tc') (.slice na' 0 nc') (.slice la' ln lc') (.slice pa' 0 pc') 0 ts [] lv []) := HGM1.out.kept hgrow
  have hb0 := HRD.out.g 0 _ rfl
  clear hown hgrow hnew HGM1 HX2 hb1 hi hz0 hz1 hz2 HB3 HB4 HWB HWS HW HCP
  rw [← HCB.out]
  go_wp2_with fail
  go_loopg [30] tn (fun gk i wr => ∃ k : Nat, k ≤ tn ∧ gk = tn - k ∧ i = .int .i64 k ∧ RdAt w wr #[.slice ta tn tc, .slice na nn nc, .slice la ln lc, .int .i64 st, .slice pa n pc] #[.slice (some ⟨kb, 0, none⟩) n n, .pointer (some ⟨pb, 0, none⟩), .pointer (some ⟨ub, 0, none⟩)] (cb + 1) (tn + nn) (numT k) ∧ GmAt wr (w.heap.size + 3) cb (.slice ta' tn tc') (.slice na' 0 nc') (.slice la' ln lc') (.slice pa' 0 pc') 0 ts [] lv [])
  case atStart => exact ⟨0, Nat.zero_le _, rfl, rfl, HRD.out, HGM.out⟩
  case round =>
    obtain ⟨k, hk, hgk, rfl, hR, hQ⟩ := hrel
    have HGK : Hid (gk = tn - k) := hgk
    have HR : Hid (RdAt w wr #[.slice ta tn tc, .slice na nn nc, .slice la ln lc, .int .i64 st, .slice pa n pc] #[.slice (some ⟨kb, 0, none⟩) n n, .pointer (some ⟨pb, 0, none⟩), .pointer (some ⟨ub, 0, none⟩)] (cb + 1) (tn + nn) (numT k)) := hR
    have HQ : Hid (GmAt wr (w.heap.size + 3) cb (.slice ta' tn tc') (.slice na' 0 nc') (.slice la' ln lc') (.slice pa' 0 pc') 0 ts [] lv []) := hQ
    clear hgk hR hQ HRD HGM hb0
    by_cases hlt : k < tn
    · have r0 := HR.out.nums.cell k (by omega)
      have rf := HR.out.nums.free k
      have hk0 : (0 : Int) ≤ (k : Int) := by omega
      have hk1 : (k : Int) < (tn : Int) := by omega
      have hk2 : (k : Int) < (tn : Int) + (nn : Int) := by omega
      obtain ⟨r, hr⟩ : ∃ r, r = numT k k := ⟨_, rfl⟩
      rw [← hr] at r0
      clear hr
      go_wp2_with fail
      go_roundg (tn - (k + 1))
      case measure => have := HGK.out; omega
      case rel => exact ⟨k + 1, by omega, rfl, by go_num, by rw [← numT_succ]; exact HR.out.setNum k k, HQ.out.elsewhere (show wr.heap[cb + 1]? = some (.cells _ 3 (0, 0)) from HR.out.nums) HVL.out (grown_setCell _ _ _)⟩
    · have hkn : tn = k := by omega
      subst hkn
      obtain ⟨⟨q0, q1, q2, q3, q4⟩, qf⟩ := HQ.out.cells
      have qf1 := qf 1
      have g1 := HR.out.g 1 _ rfl
      have hgne1 : w.heap.size ≠ cb := by omega
      have hgne2 : cb ≠ w.heap.size := by omega
      have HR2 : Hid (RdAt w ((wr.alloc (.cells #[.string ⟨#[]⟩] 9)).setCell ⟨cb, 1, none⟩ (.slice (some ⟨wr.heap.size, 0, none⟩) 1 1)) #[.slice ta tn tc, .slice na nn nc, .slice la ln lc, .int .i64 st, .slice pa n pc] #[.slice (some ⟨kb, 0, none⟩) n n, .pointer (some ⟨pb, 0, none⟩), .pointer (some ⟨ub, 0, none⟩)] (cb + 1) (tn + nn) (numTo tn g 0)) := by
        rw [← numT_all]
        have h1 := HR.out.kept (World.grownBy_alloc wr (.cells #[.string ⟨#[]⟩] 9) none)
        exact h1.at (grown_setCell _ _ _) (by omega) (by omega)
      have HQ2 : Hid (GmAt ((wr.alloc (.cells #[.string ⟨#[]⟩] 9)).setCell ⟨cb, 1, none⟩ (.slice (some ⟨wr.heap.size, 0, none⟩) 1 1)) (w.heap.size + 3) cb (.slice ta' tn tc') (.slice (some ⟨wr.heap.size, 0, none⟩) 1 1) (.slice la' ln lc') (.slice pa' 0 pc') 0 ts (namesTo g ns 0) lv []) := by
        refine HQ.out.setN (grown_any _ (World.grownBy_alloc wr _ none)) ⟨rfl, .inr ⟨wr.heap.size, 1, _, rfl, by have := HQ.out.lt; omega, heap_alloc_last wr _, Nat.le_refl _, by unfold maxLen; omega, rfl, rfl⟩⟩
      have hal := World.grownBy_alloc wr (.cells #[.string ⟨#[]⟩] 9) none
      have y1 := hal.cell q1 (by simp)
      have y2 : (wr.alloc (.cells #[.string ⟨#[]⟩] 9)).frozen? ⟨cb, 1, none⟩ = false := (HQ.out.kept hal).cells.2 1
      have y3 := hal.cell g1 (by simp)
      have y4 := HR2.out.g 1 _ rfl
      clear HGK q0 q1 q2 q3 q4 qf qf1 g1 hal
      go_wp2_with fail
      generalize (wr.alloc (.cells #[.string ⟨#[]⟩] 9)).setCell ⟨cb, 1, none⟩ (.slice (some ⟨wr.heap.size, 0, none⟩) 1 1) = X5 at *
      clear y1 y2 y3 y4 HQ HR
      obtain ⟨wz, hwz⟩ : ∃ wz, wz = wr.heap.size := ⟨_, rfl⟩
      rw [← hwz] at HQ2
      clear hwz
      obtain ⟨iS, hiS, hS0, hS1, hS2⟩ := info_parts infoStr
      go_loopg [43] nn (fun gk i wr => ∃ (k ll : Nat) (a2 : Option Addr) (c2 : Nat), k ≤ nn ∧ gk = nn - k ∧ i = .int .i64 k ∧ ll = 1 + cntU g k ∧ RdAt w wr #[.slice ta tn tc, .slice na nn nc, .slice la ln lc, .int .i64 st, .slice pa n pc] #[.slice (some ⟨kb, 0, none⟩) n n, .pointer (some ⟨pb, 0, none⟩), .pointer (some ⟨ub, 0, none⟩)] (cb + 1) (tn + nn) (numTo tn g k) ∧ GmAt wr (w.heap.size + 3) cb (.slice ta' tn tc') (.slice a2 ll c2) (.slice la' ln lc') (.slice pa' 0 pc') 0 ts (namesTo g ns k) lv [])
      case atStart => exact ⟨0, 1, _, _, Nat.zero_le _, rfl, rfl, rfl, HR2.out, HQ2.out⟩
      case round =>
        obtain ⟨k, ll, a2, c2, hk, hgk, rfl, hll, hR, hQ⟩ := hrel
        have HGK : Hid (gk = nn - k) := hgk
        have HLL : Hid (ll = 1 + cntU g k) := hll
        have HR : Hid (RdAt w wr #[.slice ta tn tc, .slice na nn nc, .slice la ln lc, .int .i64 st, .slice pa n pc] #[.slice (some ⟨kb, 0, none⟩) n n, .pointer (some ⟨pb, 0, none⟩), .pointer (some ⟨ub, 0, none⟩)] (cb + 1) (tn + nn) (numTo tn g k)) := hR
        have HQ : Hid (GmAt wr (w.heap.size + 3) cb (.slice ta' tn tc') (.slice a2 ll c2) (.slice la' ln lc') (.slice pa' 0 pc') 0 ts (namesTo g ns k) lv []) := hQ
        have hll1 : ll ≤ 1024 := by have := cntU_le g k; have := HM.out.nmax; omega
        clear hgk hR hQ HR2 HQ2 hll
        by_cases hlt : k < nn
        · obtain ⟨bn, on, rfl, hcs⟩ : ∃ b off, na = some ⟨b, off, none⟩ ∧ ∀ i, i < ns.length → w.cell? ⟨b, off + i, none⟩ = some (.string (ns.getD i ⟨#[]⟩)) := by
            rcases HG.out.nons with h | h
            · have := HLN.out.2.1; rw [h] at this; simp at this; omega
            · exact h
          have hkn2 : k < ns.length := by rw [HLN.out.2.1]; exact hlt
          have c0 := HR.out.grown.cell (hcs k hkn2) (by simp)
          obtain ⟨nm, hnm⟩ : ∃ nm, nm = ns.getD k ⟨#[]⟩ := ⟨_, rfl⟩
          have HNM : Hid (nm = ns.getD k ⟨#[]⟩) := hnm
          rw [← hnm] at c0
          have g0 := HR.out.g 0 _ rfl
          have u2 := HR.out.u 2 _ rfl
          have hk0 : (0 : Int) ≤ (k : Int) := by omega
          have hk1 : (k : Int) < (nn : Int) := by omega
          have hkN : decide (k < nn) = true := decide_eq_true hlt
          have hs1 : ((tn : Int) + (k : Int)) < (tn : Int) + (nn : Int) := by omega
          have hs0 : (0 : Int) ≤ (tn : Int) + (k : Int) := by omega
          have HH := B.has_any (some ⟨ub, 0, none⟩) (tn + nn) u ((tn : Int) + (k : Int)) wr (SetM_kept HU.out.used HR.out.grown)
          have e1 : B.hasB u ((tn : Int) + (k : Int)) = u.testBit (tn + k) := by
            unfold B.hasB
            have e2 : ((tn : Int) + (k : Int)).toNat = tn + k := by omega
            rw [e2, decide_eq_true (by omega), Bool.true_and]
          rw [e1] at HH
          obtain ⟨b, hb⟩ : ∃ b, b = u.testBit (tn + k) := ⟨_, rfl⟩
          rw [← hb] at HH
          have HHH : Hid (Calls Try.prog 33 #[.pointer (some ⟨ub, 0, none⟩), .int .i64 ((tn : Int) + (k : Int))] wr fun e w' => e = .returned (.bool b) ∧ ∃ j, w' = wr.drewN j) := HH
          have HBB : Hid (b = u.testBit (tn + k)) := hb
          clear HH e1 hb hcs hkn2 hnm
          go_wp2_with fail
          refine Calls.mono HHH.out ?_
          rintro e w5 ⟨rfl, jj, rfl⟩
          have HR5 : Hid (RdAt w (wr.drewN jj) #[.slice ta tn tc, .slice (some ⟨bn, on, none⟩) nn nc, .slice la ln lc, .int .i64 st, .slice pa n pc] #[.slice (some ⟨kb, 0, none⟩) n n, .pointer (some ⟨pb, 0, none⟩), .pointer (some ⟨ub, 0, none⟩)] (cb + 1) (tn + nn) (numTo tn g k)) := HR.out.kept (grown_drewN _ _)
          have HQ5 : Hid (GmAt (wr.drewN jj) (w.heap.size + 3) cb (.slice ta' tn tc') (.slice a2 ll c2) (.slice la' ln lc') (.slice pa' 0 pc') 0 ts (namesTo g ns k) lv []) := HQ.out.kept (grown_drewN _ _)
          generalize wr.drewN jj = w5 at *
          clear g0 u2 c0 HR HQ HHH
          cases b with
          | false =>
            go_wp2_with fail
            go_roundg (nn - (k + 1))
            case measure => have := HGK.out; omega
            case rel =>
              have hb : g k = false := by rw [HGG.out]; exact HBB.out.symm
              refine ⟨k + 1, ll, a2, c2, by omega, rfl, by go_num, ?_, by rw [numTo_no hb]; exact HR5.out, by rw [namesTo_no hb]; exact HQ5.out⟩
              rw [HLL.out, ← namesTo_len _ ns, ← namesTo_len _ ns, namesTo_no hb]
          | true =>
            have hb : g k = true := by rw [HGG.out]; exact HBB.out.symm
            have HBT := show Hid _ from hb
            clear hb
            have g0 := HR5.out.g 0 _ rfl
            have r0 := HR5.out.nums.cell (tn + k) (by omega)
            have rf := HR5.out.nums.free (tn + k)
            obtain ⟨⟨q0, q1, q2, q3, q4⟩, qf⟩ := HQ5.out.cells
            have qf1 := qf 1
            obtain ⟨rv, hrv⟩ : ∃ r, r = numTo tn g k (tn + k) := ⟨_, rfl⟩
            rw [← hrv] at r0
            have hna : cb + 1 ≠ cb := by omega
            have hnb : cb ≠ cb + 1 := by omega
            have HR6 : Hid (RdAt w (w5.setCell ⟨cb + 1, tn + k, none⟩ (.int .i64 ((tn : Int) + (ll : Int)))) #[.slice ta tn tc, .slice (some ⟨bn, on, none⟩) nn nc, .slice la ln lc, .int .i64 st, .slice pa n pc] #[.slice (some ⟨kb, 0, none⟩) n n, .pointer (some ⟨pb, 0, none⟩), .pointer (some ⟨ub, 0, none⟩)] (cb + 1) (tn + nn) (numTo tn g (k + 1))) := by
              rw [← numTo_yes HBT.out, HLL.out]; exact HR5.out.setNum _ _
            have HQ6 : Hid (GmAt (w5.setCell ⟨cb + 1, tn + k, none⟩ (.int .i64 ((tn : Int) + (ll : Int)))) (w.heap.size + 3) cb (.slice ta' tn tc') (.slice a2 ll c2) (.slice la' ln lc') (.slice pa' 0 pc') 0 ts (namesTo g ns k) lv []) := HQ5.out.elsewhere (show w5.heap[cb + 1]? = some (.cells _ 3 (0, 0)) from HR5.out.nums) HVL.out (grown_setCell _ _ _)
            obtain ⟨X6, hX6⟩ : ∃ X6, X6 = w5.setCell ⟨cb + 1, tn + k, none⟩ (.int .i64 ((tn : Int) + (ll : Int))) := ⟨_, rfl⟩
            rw [← hX6] at HR6 HQ6
            have HXE := show Hid _ from hX6
            have hX6s : X6.heap.size = w5.heap.size := by rw [hX6]; simp
            have HNR : Hid ((X6.alloc (.cells #[.string nm] 9)).ownsRow (w.heap.size + 3) 9 1 (.slice a2 ll c2) ll ((namesTo g ns k).map Value.string)) := by
              have h := (HQ6.out.kept (World.grownBy_alloc X6 (.cells #[.string nm] 9) none)).nr
              rw [namesTo_len, ← HLL.out] at h
              exact h
            have HB6 : Hid (w.heap.size + 3 ≤ (X6.alloc (.cells #[.string nm] 9)).heap.size) := by show _ ≤ _; have := HQ6.out.lt; simp; omega
            have HF6 : Hid (∀ v6 wB, wB.ownsRow (w.heap.size + 3) 9 1 v6 (ll + 1) ((namesTo g ns k).map Value.string ++ [.string nm]) → (X6.alloc (.cells #[.string nm] 9)).grownBy wB (Value.slice a2 ll c2).ownBlock → ∃ a c, v6 = .slice a (ll + 1) c ∧ wB.cell? ⟨cb, 1, none⟩ = some (.slice a2 ll c2) ∧ wB.frozen? ⟨cb, 1, none⟩ = false ∧ RdAt w (wB.setCell ⟨cb, 1, none⟩ (.slice a (ll + 1) c)) #[.slice ta tn tc, .slice (some ⟨bn, on, none⟩) nn nc, .slice la ln lc, .int .i64 st, .slice pa n pc] #[.slice (some ⟨kb, 0, none⟩) n n, .pointer (some ⟨pb, 0, none⟩), .pointer (some ⟨ub, 0, none⟩)] (cb + 1) (tn + nn) (numTo tn g (k + 1)) ∧ GmAt (wB.setCell ⟨cb, 1, none⟩ (.slice a (ll + 1) c)) (w.heap.size + 3) cb (.slice ta' tn tc') (.slice a (ll + 1) c) (.slice la' ln lc') (.slice pa' 0 pc') 0 ts (namesTo g ns (k + 1)) lv []) := by
              intro v6 wB ho hg
              obtain ⟨a, c, rfl⟩ := owns_slice ho
              have hal := World.grownBy_alloc X6 (.cells #[.string nm] 9) none
              have hQ7 := HQ6.out.kept hal
              have hbx := hQ7.boxKept HNR.out (by decide) hg
              have hR7 := (HR6.out.kept hal).row HNR.out (Nat.le_refl _) (by decide) hg
              refine ⟨a, c, rfl, by rw [cell_of_row _ _ _ _ _ _ hbx]; rfl, frozen_of_row _ _ _ _ _ hbx, hR7.at (grown_setCell _ _ _) (by omega) (by omega), ?_⟩
              have h8 : (namesTo g ns (k + 1)).length = ll + 1 := by rw [namesTo_yes HBT.out, List.length_append, namesTo_len, ← HLL.out]; rfl
              have h9 := hQ7.setN (ns' := namesTo g ns (k + 1)) (v' := .slice a (ll + 1) c) (Y := wB) hg (by
                rw [h8, namesTo_yes HBT.out, List.map_append, ← HNM.out]; exact ho)
              exact h9
            clear hrv q0 q2 q3 q4 qf hX6
            have HNW : Hid (∀ j u, [Value.string nm][j]? = some u → (X6.alloc (.cells #[.string nm] 9)).cell? ((⟨w5.heap.size, 0, none⟩ : Addr).add j) = some u) := by rw [← hX6s]; exact news_new X6 _ _
            rw [HXE.out] at HNR HB6 HF6 HNW
            clear hX6s
            go_wp2_with (at_builtin; refine wpList_append_src rfl (.tmp 69) (.tmp 71) 23 rfl (w.heap.size + 3) 9 iS (.string ByteArray.empty) 1 16 Try.underlying23 hiS hS0 hS1 hS2 rfl (by decide) (.slice a2 ll c2) ll ((namesTo g ns k).map Value.string) rfl HNR.out (some ⟨w5.heap.size, 0, none⟩) 1 1 [.string nm] rfl (fun h => by cases h) rfl (fun ad e => by cases e; exact HNW.out) (by simp [Value.oneCell']) (by unfold maxLen; omega) (by omega) HB6.out ?_; intro v6 wB hoB hgB; obtain ⟨a6, c6, rfl, y0, y1, y2, y3⟩ := HF6.out v6 wB hoB hgB; have HY2 := show Hid _ from y2; have HY3 := show Hid _ from y3; clear hoB hgB y2 y3)
            go_roundg (nn - (k + 1))
            case measure => have := HGK.out; omega
            case rel =>
              refine ⟨k + 1, ll + 1, a6, c6, by omega, rfl, by go_num, ?_, HY2.out, HY3.out⟩
              rw [← namesTo_len _ ns, namesTo_yes HBT.out, List.length_append, namesTo_len, ← HLL.out]; rfl
        · have hkn : nn = k := by omega
          subst hkn
          obtain ⟨x, hx⟩ : ∃ x : Nat, st = (x : Int) := ⟨st.toNat, by have := HM.out.start; omega⟩
          have hxN : x < tn + nn := by have := HM.out.start; omega
          have hx0 : (0 : Int) ≤ (x : Int) := by omega
          have hx1 : (x : Int) < (tn : Int) + (nn : Int) := by omega
          have n0 := HR.out.nums.cell x hxN
          obtain ⟨z, hz⟩ : ∃ z, z = numTo tn g nn x := ⟨_, rfl⟩
          have HZ : Hid (z = numTo tn g nn st.toNat) := by show _ = _; rw [hz, hx]; rfl
          rw [← hz] at n0
          have g3 := HR.out.g 3 _ rfl
          have g0 := HR.out.g 0 _ rfl
          have u0 := HR.out.u 0 _ rfl
          rw [hx] at g3
          clear hx
          obtain ⟨⟨q0, q1, q2, q3, q4⟩, qf⟩ := HQ.out.cells
          have qf3 := qf 3
          have hna : cb + 1 ≠ cb := by omega
          have hnb : cb ≠ cb + 1 := by omega
          have hnc : w.heap.size + 1 ≠ cb := by omega
          have hnd : cb ≠ w.heap.size + 1 := by omega
          have HQ3 : Hid (GmAt (wr.setCell ⟨cb, 3, none⟩ (.int .i64 z)) (w.heap.size + 3) cb (.slice ta' tn tc') (.slice a2 ll c2) (.slice la' ln lc') (.slice pa' 0 pc') z ts (namesTo g ns nn) lv []) := HQ.out.setStart
          have HR3 : Hid (RdAt w (wr.setCell ⟨cb, 3, none⟩ (.int .i64 z)) #[.slice ta tn tc, .slice na nn nc, .slice la ln lc, .int .i64 st, .slice pa n pc] #[.slice (some ⟨kb, 0, none⟩) n n, .pointer (some ⟨pb, 0, none⟩), .pointer (some ⟨ub, 0, none⟩)] (cb + 1) (tn + nn) (numTo tn g nn)) := HR.out.at (grown_setCell _ _ _) (by omega) (by omega)
          have HQ4 := show Hid _ from HQ3.out.firstP (l := (tn : Int)) (z := z) (by have := HQ3.out.lt; omega)
          have hs3 : (wr.setCell ⟨cb, 3, none⟩ (.int .i64 z)).heap.size = wr.heap.size := by simp
          rw [hs3] at HQ4
          have hal := grown_trans (World.grownBy_alloc (wr.setCell ⟨cb, 3, none⟩ (.int .i64 z)) (.cells #[.int .i64 z] 3) none) (World.grownBy_alloc ((wr.setCell ⟨cb, 3, none⟩ (.int .i64 z)).alloc (.cells #[.int .i64 z] 3)) (.cells #[.int .i64 (tn : Int), .slice (some ⟨wr.heap.size, 0, none⟩) 1 1, .int .i64 0] 45) none)
          have y1 := (HQ3.out.kept hal).cells.1.2.2.2.2
          have y2 := (HQ3.out.kept hal).cells.2 4
          have HR4 : Hid (RdAt w ((((wr.setCell ⟨cb, 3, none⟩ (.int .i64 z)).alloc (.cells #[.int .i64 z] 3)).alloc (.cells #[.int .i64 (tn : Int), .slice (some ⟨wr.heap.size, 0, none⟩) 1 1, .int .i64 0] 45)).setCell ⟨cb, 4, none⟩ (.slice (some ⟨wr.heap.size + 1, 0, none⟩) 1 1)) #[.slice ta tn tc, .slice na nn nc, .slice la ln lc, .int .i64 st, .slice pa n pc] #[.slice (some ⟨kb, 0, none⟩) n n, .pointer (some ⟨pb, 0, none⟩), .pointer (some ⟨ub, 0, none⟩)] (cb + 1) (tn + nn) (numTo tn g nn)) := (HR3.out.kept hal).at (grown_setCell _ _ _) (by omega) (by omega)
          have y3 := HR4.out.u 0 _ rfl
          have y4 := (HR3.out.kept hal).u 0 _ rfl
          clear hal hs3 q0 q1 q2 q4 qf hz HGK HLL HQ3 HR3
          go_wp2_with fail
          generalize (((wr.setCell ⟨cb, 3, none⟩ (.int .i64 z)).alloc (.cells #[.int .i64 z] 3)).alloc (.cells #[.int .i64 (tn : Int), .slice (some ⟨wr.heap.size, 0, none⟩) 1 1, .int .i64 0] 45)).setCell ⟨cb, 4, none⟩ (.slice (some ⟨wr.heap.size + 1, 0, none⟩) 1 1) = X9 at *
          clear y1 y2 y3 y4 HR HQ n0 g0 g3 u0 q3 qf3 hx0 hx1 hxN
          have HN0 : Hid (MayOK tn nn n st L R cl) := HM.out
          obtain ⟨iP, hiP, hP0, hP1, hP2⟩ := info_parts infoProd
          have hn97 : n ≤ 97 := HM.out.pmax
          have E55 : Hid (∀ args w, (callFunc 55 args).run Try.prog w = .ok (.enter 55 args) w) := enters_of Try.func55 (by kernel_rfl) rfl
          go_loopg [12, 93] n (fun gk b12 i wr => ∃ (k pl : Nat) (a4 : Option Addr) (c4 : Nat), k ≤ n ∧ gk = n - k ∧ i = .int .i64 k ∧ pl = (prodsTo tn (numTo tn g nn) st L R V go k).length ∧ RdAt w wr #[.slice ta tn tc, .slice na nn nc, .slice la ln lc, .int .i64 st, .slice pa n pc] #[.slice (some ⟨kb, 0, none⟩) n n, .pointer (some ⟨pb, 0, none⟩), .pointer (some ⟨ub, 0, none⟩)] (cb + 1) (tn + nn) (numTo tn g nn) ∧ GmAt wr (w.heap.size + 3) cb (.slice ta' tn tc') (.slice a2 ll c2) (.slice la' ln lc') (.slice a4 pl c4) z ts (namesTo g ns nn) lv (prodsTo tn (numTo tn g nn) st L R V go k))
          case atStart => exact ⟨0, 1, _, _, Nat.zero_le _, rfl, rfl, rfl, HR4.out, by rw [HZ.out] at HQ4 ⊢; exact HQ4.out⟩
          case round =>
            obtain ⟨k, pl, a4, c4, hk, hgk, rfl, hpl, hR, hQ⟩ := hrel
            have HGK : Hid (gk = n - k) := hgk
            have HPL : Hid (pl = (prodsTo tn (numTo tn g nn) st L R V go k).length) := hpl
            have HR : Hid (RdAt w wr #[.slice ta tn tc, .slice na nn nc, .slice la ln lc, .int .i64 st, .slice pa n pc] #[.slice (some ⟨kb, 0, none⟩) n n, .pointer (some ⟨pb, 0, none⟩), .pointer (some ⟨ub, 0, none⟩)] (cb + 1) (tn + nn) (numTo tn g nn)) := hR
            have HQ : Hid (GmAt wr (w.heap.size + 3) cb (.slice ta' tn tc') (.slice a2 ll c2) (.slice la' ln lc') (.slice a4 pl c4) z ts (namesTo g ns nn) lv (prodsTo tn (numTo tn g nn) st L R V go k)) := hQ
            have hpl1 : pl ≤ 1024 := by have := prodsTo_len (tn := tn) (num := numTo tn g nn) (st := st) (L := L) (R := R) (V := V) (go := go) k; have := HM.out.pmax; omega
            clear hgk hR hQ HR4 HQ4 hpl
            by_cases hlt : k < n
            · obtain ⟨h0, h1, h2, h3, h4, _⟩ := HU.out.is k hlt
              have c0 := HR.out.grown.cell (HU.out.row.cell (k * 4) (by omega)) (by simp)
              have c1 := HR.out.grown.cell (HU.out.row.cell (k * 4 + 1) (by omega)) (by simp)
              have c2' := HR.out.grown.cell (HU.out.row.cell (k * 4 + 2) (by omega)) (by simp)
              have c3 := HR.out.grown.cell (HU.out.row.cell (k * 4 + 3) (by omega)) (by simp)
              rw [h0] at c0
              rw [h1] at c1
              rw [h2] at c2'
              rw [h3] at c3
              have hk0 : (0 : Int) ≤ (k : Int) := by omega
              have hk1 : (k : Int) < (n : Int) := by omega
              have hkN : decide (k < n) = true := decide_eq_true hlt
              obtain ⟨hl0, hl1⟩ := HM.out.left k hlt
              have hcov := cov_fits HB.out (R k) (fun z hz => ⟨by have := HM.out.right k hlt z hz; omega, (HM.out.right k hlt z hz).2⟩)
              have HPI : Hid (IntsAt w (ra k) (R k) ∧ (R k).length ≤ 17592186044416) := by
                rcases HG.out.prods with h | ⟨b, off, e, h⟩
                · omega
                · exact ⟨(h k hlt).2.2.2.1, (h k hlt).2.2.2.2.2⟩
              obtain ⟨b, hb⟩ : ∃ b, b = go k := ⟨_, rfl⟩
              have HBB : Hid (b = go k) := hb
              have HST : Hid (∀ X, w.grownBy X none → Calls Try.prog 48 #[.agg #[.slice (some ⟨kb, 0, none⟩) n n, .pointer (some ⟨pb, 0, none⟩), .pointer (some ⟨ub, 0, none⟩)], .agg #[.int .i64 (L k), .slice (ra k) (R k).length (rc k), .int .i64 (V k), .pointer (some ⟨q k, 0, none⟩)]] X fun e y => e = .returned (.bool b) ∧ X.grownBy y none) := fun X hX => by
                rw [hb, HGO.out]
                exact stays_any pb ub (q k) (tn + nn) m (rowB (tn + nn) (R k)) u _ (L k) (V k) (ra k) (R k).length (rc k) X (SetM_kept HU.out.prod hX) (SetM_kept HU.out.used hX) (SetM_kept h4 hX) (fitsB tn f (R k)) hcov _ rfl
              have HMV : Hid (∀ X, w.grownBy X none → NumAt X (cb + 1) (tn + nn) (numTo tn g nn) → Calls Try.prog 55 #[.agg #[.int .i64 (L k), .slice (ra k) (R k).length (rc k), .int .i64 (V k)], .slice (some ⟨cb + 1, 0, none⟩) (tn + nn) (tn + nn)] X fun e y => MovedTold (numTo tn g nn) (L k) (R k) (V k) X e y) := fun X hX hN => moved_any (ra k) (rc k) (cb + 1) (tn + nn) (numTo tn g nn) (L k) (V k) (R k) X (HPI.out.1.kept hX) HPI.out.2 hN (by omega) (fun x hx => ⟨by have := HM.out.right k hlt x hx; omega, (HM.out.right k hlt x hx).2⟩)
              obtain ⟨l, hl⟩ : ∃ l, l = L k := ⟨_, rfl⟩
              obtain ⟨v, hv⟩ : ∃ v, v = V k := ⟨_, rfl⟩
              obtain ⟨d1, hd1⟩ : ∃ d1, d1 = ra k := ⟨_, rfl⟩
              obtain ⟨d2, hd2⟩ : ∃ d2, d2 = (R k).length := ⟨_, rfl⟩
              obtain ⟨d3, hd3⟩ : ∃ d3, d3 = rc k := ⟨_, rfl⟩
              obtain ⟨d4, hd4⟩ : ∃ d4, d4 = q k := ⟨_, rfl⟩
              have HEQ : Hid (l = L k ∧ v = V k ∧ d2 = (R k).length) := ⟨hl, hv, hd2⟩
              rw [← hl] at c0
              rw [← hd1, ← hd2, ← hd3] at c1
              rw [← hv] at c2'
              rw [← hd4] at c3
              rw [← hl, ← hd1, ← hd2, ← hd3, ← hv, ← hd4] at HST
              have HMV2 : Hid (∀ X, w.grownBy X none → NumAt X (cb + 1) (tn + nn) (numTo tn g nn) → Calls Try.prog 55 #[.agg #[.int .i64 l, .slice d1 d2 d3, .int .i64 v], .slice (some ⟨cb + 1, 0, none⟩) (tn + nn) (tn + nn)] X fun e y => MovedTold (numTo tn g nn) l (R k) v X e y) := by
                rw [hl, hd1, hd2, hd3, hv]; exact HMV.out
              have HX5 : Hid (RdAt w (wr.alloc (.cells #[.int .i64 l, .slice d1 d2 d3, .int .i64 v, .pointer (some ⟨d4, 0, none⟩)] 78)) #[.slice ta tn tc, .slice na nn nc, .slice la ln lc, .int .i64 st, .slice pa n pc] #[.slice (some ⟨kb, 0, none⟩) n n, .pointer (some ⟨pb, 0, none⟩), .pointer (some ⟨ub, 0, none⟩)] (cb + 1) (tn + nn) (numTo tn g nn)) := HR.out.kept (World.grownBy_alloc _ _ none)
              have HQ5 : Hid (GmAt (wr.alloc (.cells #[.int .i64 l, .slice d1 d2 d3, .int .i64 v, .pointer (some ⟨d4, 0, none⟩)] 78)) (w.heap.size + 3) cb (.slice ta' tn tc') (.slice a2 ll c2) (.slice la' ln lc') (.slice a4 pl c4) z ts (namesTo g ns nn) lv (prodsTo tn (numTo tn g nn) st L R V go k)) := HQ.out.kept (World.grownBy_alloc _ _ none)
              have HBX : Hid ((wr.alloc (.cells #[.int .i64 l, .slice d1 d2 d3, .int .i64 v, .pointer (some ⟨d4, 0, none⟩)] 78)).heap[wr.heap.size]? = some (.cells #[.int .i64 l, .slice d1 d2 d3, .int .i64 v, .pointer (some ⟨d4, 0, none⟩)] 78 (0, 0))) := heap_alloc_last wr _
              have u0 := HX5.out.u 0 _ rfl
              have u1 := HX5.out.u 1 _ rfl
              have u2 := HX5.out.u 2 _ rfl
              clear h0 h1 h2 h3 h4 hl0 hl1 hcov HPI hb hl hv hd1 hd2 hd3 hd4 HMV HR HQ
              go_wp2_with fail
              refine Calls.mono (HST.out _ HX5.out.grown) ?_
              rintro e w5 ⟨rfl, hg5⟩
              have HR6 : Hid (RdAt w w5 #[.slice ta tn tc, .slice na nn nc, .slice la ln lc, .int .i64 st, .slice pa n pc] #[.slice (some ⟨kb, 0, none⟩) n n, .pointer (some ⟨pb, 0, none⟩), .pointer (some ⟨ub, 0, none⟩)] (cb + 1) (tn + nn) (numTo tn g nn)) := HX5.out.kept hg5
              have HQ6 : Hid (GmAt w5 (w.heap.size + 3) cb (.slice ta' tn tc') (.slice a2 ll c2) (.slice la' ln lc') (.slice a4 pl c4) z ts (namesTo g ns nn) lv (prodsTo tn (numTo tn g nn) st L R V go k)) := HQ5.out.kept hg5
              have HBY := boxKept HBX.out hg5
              clear hg5 HX5 HQ5 HBX u0 u1 u2 c0 c1 c2' c3 HST
              cases b with
              | false =>
                go_wp2_with fail
                go_roundg (n - (k + 1))
                case measure => have := HGK.out; omega
                case rel =>
                  have hb : go k = false := HBB.out.symm
                  exact ⟨k + 1, pl, a4, c4, by omega, rfl, by go_num, by rw [prodsTo_no hb]; exact HPL.out, HR6.out, by rw [prodsTo_no hb]; exact HQ6.out⟩
              | true =>
                have hb : go k = true := HBB.out.symm
                have HBT := show Hid _ from hb
                clear hb
                have b0 : w5.drew.cell? ⟨wr.heap.size, 0, none⟩ = some (.int .i64 l) := by show w5.cell? _ = _; rw [cell_of_row _ _ _ _ _ _ HBY.out]; rfl
                have b1 : w5.drew.cell? ⟨wr.heap.size, 1, none⟩ = some (.slice d1 d2 d3) := by show w5.cell? _ = _; rw [cell_of_row _ _ _ _ _ _ HBY.out]; rfl
                have b2 : w5.drew.cell? ⟨wr.heap.size, 2, none⟩ = some (.int .i64 v) := by show w5.cell? _ = _; rw [cell_of_row _ _ _ _ _ _ HBY.out]; rfl
                have q4 : w5.drew.cell? ⟨cb, 4, none⟩ = some (.slice a4 pl c4) := HQ6.out.cells.1.2.2.2.2
                obtain ⟨rb, hrb⟩ : ∃ rb, rb = wr.heap.size := ⟨_, rfl⟩
                rw [← hrb] at b0 b1 b2 ⊢
                clear hrb HBY
                obtain ⟨rs, e1, e2, e3⟩ := HQ6.out.pr
                have HRS : Hid (rs.length = (prodsTo tn (numTo tn g nn) st L R V go k).length ∧ w5.ownsRow (w.heap.size + 3) 45 3 (.slice a4 pl c4) (prodsTo tn (numTo tn g nn) st L R V go k).length (((prodsTo tn (numTo tn g nn) st L R V go k).zip rs).flatMap fun x => prL x.1 x.2) ∧ ∀ i, i < (prodsTo tn (numTo tn g nn) st L R V go k).length → w5.ownsRow (w.heap.size + 3) 3 1 (rs.getD i undef) ((prodsTo tn (numTo tn g nn) st L R V go k).getD i ⟨0, [], 0⟩).right.length (((prodsTo tn (numTo tn g nn) st L R V go k).getD i ⟨0, [], 0⟩).right.map (Value.int .i64))) := ⟨e1, e2, e3⟩
                obtain ⟨fl, hfl⟩ : ∃ fl, fl = ((prodsTo tn (numTo tn g nn) st L R V go k).zip rs).flatMap fun x => prL x.1 x.2 := ⟨_, rfl⟩
                have HFL := show Hid _ from hfl
                obtain ⟨z1, hz1⟩ : ∃ z1, z1 = numTo tn g nn l.toNat := ⟨_, rfl⟩
                have HZ1 : Hid (z1 = numTo tn g nn l.toNat) := hz1
                have HPR : Hid (∀ X, w5.grownBy X none → X.ownsRow (w.heap.size + 3) 45 3 (.slice a4 pl c4) pl fl) := fun X hX => by rw [hfl]; have := keep0 e2 hX; rw [← HPL.out] at this; exact this
                have HG5 : Hid (w5.grownBy w5.drew none) := grown_drewN _ 1
                have HMC : Hid (Calls Try.prog 55 #[.agg #[.int .i64 l, .slice d1 d2 d3, .int .i64 v], .slice (some ⟨cb + 1, 0, none⟩) (tn + nn) (tn + nn)] w5.drew fun e y => ∃ g6, e = .returned (.agg #[.int .i64 z1, .slice (some ⟨g6, 0, none⟩) d2 d2, .int .i64 v]) ∧ Hid (y.ownsRow (w.heap.size + 3) 3 1 (.slice (some ⟨g6, 0, none⟩) d2 d2) d2 (((R k).map fun x => numTo tn g nn x.toNat).map (Value.int .i64))) ∧ w5.grownBy y none) := by
                  have h9 := HMV2.out w5.drew (grown_trans HR6.out.grown HG5.out) (HR6.out.nums.kept HG5.out)
                  refine Calls.mono h9 ?_
                  rintro e y ⟨g6, rfl, ho, hg⟩
                  rw [← HEQ.out.2.2, ← hz1]
                  rw [← HEQ.out.2.2] at ho
                  exact ⟨g6, rfl, owns_lower ho (by have := HQ6.out.lt; have := HG5.out.size; omega), grown_trans HG5.out hg⟩
                have HC4 : Hid (∀ X, w5.grownBy X none → X.cell? ⟨cb, 4, none⟩ = some (.slice a4 pl c4)) := fun X hX => (HQ6.out.kept hX).cells.1.2.2.2.2
                have HBL : Hid (∀ X, w5.grownBy X none → w.heap.size + 3 ≤ X.heap.size) := fun X hX => by have := HQ6.out.lt; have := hX.size; omega
                have HFIN : Hid (∀ (w6 wB : World) (g6 : Nat) (v6 : Value), w5.grownBy w6 none → w6.ownsRow (w.heap.size + 3) 3 1 (.slice (some ⟨g6, 0, none⟩) d2 d2) d2 (((R k).map fun x => numTo tn g nn x.toNat).map (Value.int .i64)) → wB.ownsRow (w.heap.size + 3) 45 3 v6 (pl + 1) (fl ++ [.int .i64 z1, .slice (some ⟨g6, 0, none⟩) d2 d2, .int .i64 v]) → (w6.alloc (.cells #[.int .i64 z1, .slice (some ⟨g6, 0, none⟩) d2 d2, .int .i64 v] 45)).grownBy wB (Value.slice a4 pl c4).ownBlock → ∃ a c, v6 = .slice a (pl + 1) c ∧ wB.cell? ⟨cb, 4, none⟩ = some (.slice a4 pl c4) ∧ wB.frozen? ⟨cb, 4, none⟩ = false ∧ RdAt w (wB.setCell ⟨cb, 4, none⟩ (.slice a (pl + 1) c)) #[.slice ta tn tc, .slice na nn nc, .slice la ln lc, .int .i64 st, .slice pa n pc] #[.slice (some ⟨kb, 0, none⟩) n n, .pointer (some ⟨pb, 0, none⟩), .pointer (some ⟨ub, 0, none⟩)] (cb + 1) (tn + nn) (numTo tn g nn) ∧ GmAt (wB.setCell ⟨cb, 4, none⟩ (.slice a (pl + 1) c)) (w.heap.size + 3) cb (.slice ta' tn tc') (.slice a2 ll c2) (.slice la' ln lc') (.slice a (pl + 1) c) z ts (namesTo g ns nn) lv (prodsTo tn (numTo tn g nn) st L R V go (k + 1))) := by
                  intro w6 wB g6 v6 hg6 ho6 hoB hgB
                  obtain ⟨a, c, rfl⟩ := owns_slice hoB
                  have hal := World.grownBy_alloc w6 (.cells #[.int .i64 z1, .slice (some ⟨g6, 0, none⟩) d2 d2, .int .i64 v] 45) none
                  have hgA := grown_trans hg6 hal
                  have hQ7 := HQ6.out.kept hgA
                  have hpr := HPR.out _ hgA
                  have hbx := hQ7.boxKept hpr (by decide) hgB
                  have hR7 := (HR6.out.kept hgA).row hpr (Nat.le_refl _) (by decide) hgB
                  refine ⟨a, c, rfl, by rw [cell_of_row _ _ _ _ _ _ hbx]; rfl, frozen_of_row _ _ _ _ _ hbx, hR7.at (grown_setCell _ _ _) (by omega) (by omega), ?_⟩
                  rw [prodsTo_yes HBT.out]
                  have hoA := keep0 ho6 hal
                  obtain ⟨f1, f2, f3⟩ := HRS.out
                  refine GmAt.pushP (v := .slice (some ⟨g6, 0, none⟩) d2 d2) hQ7 hgB ?_ rs f1 (keep0 f2 hgA) (fun i hi => keep0 (f3 i hi) hgA) ?_
                  · show World.ownsRow _ _ _ _ _ ((R k).map fun x => numTo tn g nn x.toNat).length _
                    rw [List.length_map, ← HEQ.out.2.2]
                    exact hoA
                  · rw [← HPL.out, ← HFL.out]
                    have e9 : prL (prOf (numTo tn g nn) L R V k) (.slice (some ⟨g6, 0, none⟩) d2 d2) = [.int .i64 z1, .slice (some ⟨g6, 0, none⟩) d2 d2, .int .i64 v] := by
                      rw [HZ1.out, HEQ.out.1, HEQ.out.2.1]; rfl
                    rw [e9]; exact hoB
                clear e1 e2 e3 hfl hz1
                go_wp2_with fail
                go_region_law (first
                  | (refine step_call rfl 55 #[.tmp 103, .tmp 104] #[45, 24] rfl #[.agg #[.int .i64 l, .slice d1 d2 d3, .int .i64 v], .slice (some ⟨cb + 1, 0, none⟩) (tn + nn) (tn + nn)] (by first | (simp [Act.eval]; done) | simp [Act.eval, Act.put]) E55.out HMC.out ?_; rintro e w6 ⟨g6, rfl, HO6, hg6⟩; refine ⟨_, rfl, ?_⟩; have HG6 : Hid (w5.grownBy w6 none) := hg6; have z4 := HC4.out _ hg6; have z5 : ∀ o, (w6.alloc o).cell? ⟨cb, 4, none⟩ = some (.slice a4 pl c4) := (fun o => HC4.out _ (grown_trans hg6 (World.grownBy_alloc _ _ none))); clear hg6)
                  | (refine step_append_src rfl (.tmp 101) (.tmp 106) 25 rfl (w.heap.size + 3) 45 iP (.agg #[.int .i64 0, .slice none 0 0, .int .i64 0]) 3 40 Try.underlying25 hiP hP0 hP1 hP2 rfl (by decide) (.slice a4 pl c4) pl fl (by simp [Act.eval]) (HPR.out _ (grown_trans HG6.out (World.grownBy_alloc _ _ none))) (some ⟨w6.heap.size, 0, none⟩) 1 1 [.int .i64 z1, .slice (some ⟨g6, 0, none⟩) d2 d2, .int .i64 v] (by simp [Act.eval]) (fun h => by cases h) rfl (fun ad e => by cases e; exact news_new w6 _ _) (by simp [Value.oneCell']) (by unfold maxLen; omega) (by omega) (HBL.out _ (grown_trans HG6.out (World.grownBy_alloc _ _ none))) ?_; intro v6 wB hoB hgB; obtain ⟨aB, cB, rfl, y0, y1, y2, y3⟩ := HFIN.out w6 wB g6 v6 HG6.out HO6.out hoB hgB; have HY2 := show Hid _ from y2; have HY3 := show Hid _ from y3; clear y2 y3 hoB hgB))
                all_goals go_wp2_with fail
                all_goals go_roundg (n - (k + 1))
                all_goals first
                  | exact ⟨k + 1, pl + 1, aB, cB, by omega, rfl, by go_num, by rw [prodsTo_yes HBT.out, List.length_append, ← HPL.out]; rfl, HY2.out, HY3.out⟩
                  | (have := HGK.out; omega)
            · have hkn : n = k := by omega
              subst hkn
              obtain ⟨⟨q0, q1, q2, q3, q4⟩, qf⟩ := HQ.out.cells
              have hrb := HR.out.rbox
              obtain ⟨s0, s1, s2, s3, s4⟩ : wr.cell? ⟨w.heap.size + 1 + 1, 0, none⟩ = some (.slice none 0 0) ∧ wr.cell? ⟨w.heap.size + 1 + 1, 1, none⟩ = some (.slice none 0 0) ∧ wr.cell? ⟨w.heap.size + 1 + 1, 2, none⟩ = some (.slice none 0 0) ∧ wr.cell? ⟨w.heap.size + 1 + 1, 3, none⟩ = some (.int .i64 0) ∧ wr.cell? ⟨w.heap.size + 1 + 1, 4, none⟩ = some (.slice none 0 0) := by
                refine ⟨?_, ?_, ?_, ?_, ?_⟩ <;> rw [cell_of_row _ _ _ _ _ _ hrb] <;> rfl
              have sf : ∀ j, wr.frozen? ⟨w.heap.size + 1 + 1, j, none⟩ = false := fun j => frozen_of_row _ _ _ _ _ hrb
              have HST := show Hid _ from set5_grown wr (w.heap.size + 1 + 1) (.slice ta' tn tc') (.slice a2 ll c2) (.slice la' ln lc') (.int .i64 z) (.slice a4 pl c4)
              have HF3 := show Hid _ from set5_heap hrb (.slice ta' tn tc') (.slice a2 ll c2) (.slice la' ln lc') (.int .i64 z) (.slice a4 pl c4)
              clear hrb HGK
              go_wp2_with fail
              refine bodyPost_ret (v := .agg #[.slice ta' tn tc', .slice a2 ll c2, .slice la' ln lc', .int .i64 z, .slice a4 pl c4]) (results_cell_row (fr := (0, 0)) rfl _ _ (w.heap.size + 1 + 1) 27 #[.slice ta' tn tc', .slice a2 ll c2, .slice la' ln lc', .int .i64 z, .slice a4 pl c4] _ rfl HF3.out Try.underlying27 rfl infoG) rfl ?_
              have hN := HQ.out.gram
              have hN2 := hN.off (B := w.heap.size) (k := w.heap.size + 1 + 1) rfl HST.out (by omega)
              refine ⟨.slice ta' tn tc', .slice a2 ll c2, .slice la' ln lc', .slice a4 pl c4, by rw [← HZ.out], ?_, grown_at HR.out.grown HST.out (by omega)⟩
              unfold redGR
              rw [← HZ.out]
              exact hN2

end Go.Proofs.Ytljlkmiaemkokaa
