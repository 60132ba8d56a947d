import Derived.Test.YtgmljpkenipgjaaQkfejmkfndaeb
import Derived.Test.YtgmljpkenipgjaaQgehnmkejidnl
import Derived.Test.YtgmljpkenipgjaaQeaohognciceb
import Derived.Laws.StructEq
import Derived.BigQuiet
import Derived.Deep.QuietTactic

/-
  pack: the program's lay.
-/
namespace Go.Proofs.Ytgmljpkenipgjaa.J
open Go.RowKit Go.Maps Go.Shelf Pk

attribute [local go_sem] Oper.semAt_some

theorem pad_all {z x : Int} {l : List Int} {n : Nat} (h : x ∈ pad z l n) : x ∈ l ∨ x = z := by
  unfold pad at h
  rw [List.mem_append] at h
  rcases h with h | h
  · exact .inl h
  · exact .inr (List.eq_of_mem_replicate h)
/-- Owners are -1 or more. -/
theorem layR_ge (i b : Nat) : ∀ (l : List Ed) (s : List Int × List Int), (∀ x ∈ s.1, -1 ≤ x) → ∀ x ∈ (layR i b s l).1, -1 ≤ x
  | [], _, h => h
  | e :: l, s, h => by
    show ∀ x ∈ (layR i b (layE i b s e) l).1, -1 ≤ x
    refine layR_ge i b l _ fun x hx => ?_
    have h1 : x ∈ (pad (-1) s.1 (b + e.1.toNat + 1)).set (b + e.1.toNat) (i : Int) := hx
    rcases List.mem_or_eq_of_mem_set h1 with h2 | h2
    · rcases pad_all h2 with h3 | h3
      · exact h x h3
      · omega
    · omega

set_option maxRecDepth 100000 in
set_option maxHeartbeats 8000000 in
theorem layRow_any {w V : World} {rb nb i lc : Nat} {la : Option Addr} {o : Obj} {s : St} {ua0 : Nat → Option Addr} {uc0 : Nat → Nat} (l : List It) (hL : LyAt w V rb (lyS s) ua0 uc0) (hP : PasAt V rb nb o (lyS s) ua0 uc0) (hl : ∀ X, w.grownBy X none → ItsAt X la l) (hrow : IsRow l) (hlen : s.ow.length = s.va.length) (hol : s.ow.length ≤ 67108864 - 512) (hge : ∀ x ∈ s.ow, -1 ≤ x) (hi : i < s.bs.length) (hbs : s.bs.length ≤ 256) :
    Calls Try.prog 42 #[.pointer (some ⟨rb, 0, none⟩), .int .i64 (i : Int), .slice la l.length lc] V fun e y => e = .returned (.tuple #[]) ∧ ∃ ua uc, LyAt w y rb (lyS (layRow s i l)) ua uc ∧ PasAt y rb nb o (lyS (layRow s i l)) ua uc := by
  have HL0 : Hid (LyAt w V rb (lyS s) ua0 uc0) := hL
  have HP0 : Hid (PasAt V rb nb o (lyS s) ua0 uc0) := hP
  have HLI := hidP hl
  have HROW : Hid (IsRow l) := hrow
  have HE : Hid (s.ow.length = s.va.length) := hlen
  have HGE := hidP hge
  have HOL : Hid (s.ow.length ≤ 67108864 - 512) := hol
  have HI : Hid (i < s.bs.length ∧ s.bs.length ≤ 256) := ⟨hi, hbs⟩
  have hn2 : l.length ≤ 256 := hrow.1
  have hPP : ∀ e ∈ l, 0 ≤ e.1 ∧ e.1 < 256 := hrow.2.1
  have HPP := hidP hPP
  obtain ⟨n, hn⟩ : ∃ v, v = l.length := ⟨_, rfl⟩
  have HN : Hid (n = l.length) := hn
  rw [← hn] at hn2 ⊢
  have HFR : Hid (∀ (wr : World) (b : Nat), V.grownBy wr none → b ≤ s.ow.length → Calls Try.prog 56 #[.agg #[.slice (ua0 0) (lyS s 0).length (uc0 0), .slice (ua0 1) (lyS s 1).length (uc0 1), .slice (ua0 2) (lyS s 2).length (uc0 2)], .int .i64 (b : Int), .slice la n lc] wr fun e y => e = .returned (.bool (fitsB s.ow l b)) ∧ wr.grownBy y none) := fun wr b hg hb => by
    rw [hn]
    exact isFree_any _ _ (ua0 2) la (uc0 2) lc s.ow l b wr ((hL.kept hg).rows.ints (j := 2) (by decide)) hge (hl _ (grown_trans hL.grown hg)) hPP (by omega) (by omega) (by omega)
  have HPOS : Hid (∃ bb : Nat, bb = baseOf s.ow l) := ⟨_, rfl⟩
  clear hL hP hl hrow hlen hge hol hi hbs hPP hn
  obtain ⟨s0, hs0⟩ : ∃ v, v = Value.slice (ua0 0) (lyS s 0).length (uc0 0) := ⟨_, rfl⟩
  obtain ⟨s1, hs1⟩ : ∃ v, v = Value.slice (ua0 1) (lyS s 1).length (uc0 1) := ⟨_, rfl⟩
  obtain ⟨s2, hs2⟩ : ∃ v, v = Value.slice (ua0 2) (lyS s 2).length (uc0 2) := ⟨_, rfl⟩
  have HC : Hid (∀ X, V.grownBy X none → X.cell? ⟨rb, 0, none⟩ = some s0 ∧ X.cell? ⟨rb, 1, none⟩ = some s1 ∧ X.cell? ⟨rb, 2, none⟩ = some s2) := fun X hX => by
    rw [hs0, hs1, hs2]
    exact (HL0.out.kept hX).cell
  rw [← hs0, ← hs1, ← hs2] at HFR
  clear hs0 hs1 hs2
  go_enter Try.func42, Try.ntmps42
  go_wp2_with fail
  go_loopg [6] (s.ow.length + 1) (fun gk v6 wr => ∃ b : Nat, v6 = .int .i64 b ∧ b ≤ s.ow.length ∧ gk = s.ow.length + 1 - b ∧ Hid (∀ c, c < b → ¬ Fits s.ow l c) ∧ V.grownBy wr none)
  case atStart => exact ⟨0, rfl, Nat.zero_le _, rfl, fun c hc => absurd hc (by omega), grown_refl _ _⟩
  case round =>
    obtain ⟨b, rfl, hb, hgb, HLE, hg⟩ := hrel
    have HG : Hid (V.grownBy wr none) := hg
    have HGB : Hid (gk = s.ow.length + 1 - b) := hgb
    have HB : Hid (b ≤ s.ow.length) := hb
    obtain ⟨c0, c1, c2⟩ := HC.out wr hg
    have HCA := hidP (HFR.out wr b hg hb)
    have hb26 : b ≤ 67108864 - 512 := Nat.le_trans hb HOL.out
    clear hg hgb hb
    go_wp2_with fail
    refine Calls.mono HCA.out ?_
    rintro e y ⟨rfl, hy⟩
    have HY : Hid (V.grownBy y none) := grown_trans HG.out hy
    clear hy HCA c0 c1 c2
    cases hf : fitsB s.ow l b with
    | false =>
      go_wp2_with fail
      go_roundg (s.ow.length + 1 - (b + 1))
      case measure => have h1 := HGB.out; have h2 := HB.out; omega
      case rel =>
        have hnx := baseOf_next HLE.out hf
        exact ⟨b + 1, by go_num, base_le hnx, rfl, hnx, HY.out⟩
    | true =>
      have HBE : Hid (baseOf s.ow l = b) := baseOf_eq ((fitsB_iff _ _ _).1 hf) HLE.out
      clear hf
      have hLy := HL0.out.kept HY.out
      have hPy := HP0.out.kept HY.out
      obtain ⟨bg, hbg, k1, k2⟩ := hLy.at (f := 0) (q := i) (by decide) HI.out.1
      have d0 := hLy.cell.1
      obtain ⟨bl, hbl⟩ : ∃ v, v = s.bs.length := ⟨_, rfl⟩
      have hbl2 : (lyS s 0).length = bl := hbl.symm
      rw [hbg, hbl2] at d0
      have hi0 : (0 : Int) ≤ (i : Int) := by omega
      have hi1 : (i : Int) < (bl : Int) := by have := HI.out.1; omega
      have hp0 := hLy.put (f := 0) (q := i) (by decide) hbg (b : Int)
      have hp1 := hPy.put (f := 0) (q := i) (by decide) hbg (b : Int)
      obtain ⟨Z, hZ⟩ : ∃ Z, Z = y.setCell ⟨bg, i, none⟩ (.int .i64 (b : Int)) := ⟨_, rfl⟩
      rw [← hZ] at hp0 hp1
      have eq0 : upZ (lyS s) 0 ((lyS s 0).set i (b : Int)) = lyQ (s.bs.set i (b : Int)) s.va s.ow := lyQ_0 s.bs s.va s.ow (s.bs.set i (b : Int))
      rw [eq0] at hp0 hp1
      obtain ⟨bs', hbs'⟩ : ∃ v, v = s.bs.set i (b : Int) := ⟨_, rfl⟩
      rw [← hbs'] at hp0 hp1
      have HBS : Hid (bs' = s.bs.set i (b : Int)) := hbs'
      have HLZ : Hid (LyAt w Z rb (lyQ bs' (layR i b (s.ow, s.va) (l.take 0)).2 (layR i b (s.ow, s.va) (l.take 0)).1) ua0 uc0) := hp0
      have HPZ : Hid (PasAt Z rb nb o (lyQ bs' (layR i b (s.ow, s.va) (l.take 0)).2 (layR i b (s.ow, s.va) (l.take 0)).1) ua0 uc0) := hp1
      clear hLy hPy hbg hbl hbl2 hp0 hp1 eq0 hbs' HLE HG HGB HFR HC
      go_wp2_with fail
      rw [← hZ]
      clear hZ d0 k1 k2 hi1
      go_loopg [28] n (fun gk v9 wr => ∃ (k : Nat) (ua : Nat → Option Addr) (uc : Nat → Nat), k ≤ n ∧ gk = n - k ∧ v9 = .int .i64 k ∧ LyAt w wr rb (lyQ bs' (layR i b (s.ow, s.va) (l.take k)).2 (layR i b (s.ow, s.va) (l.take k)).1) ua uc ∧ PasAt wr rb nb o (lyQ bs' (layR i b (s.ow, s.va) (l.take k)).2 (layR i b (s.ow, s.va) (l.take k)).1) ua uc)
      case atStart => exact ⟨0, ua0, uc0, Nat.zero_le _, rfl, rfl, HLZ.out, HPZ.out⟩
      case round =>
        clear HLZ HPZ HL0 HP0 HY
        obtain ⟨k, ua, uc, hk, hgk, rfl, hL, hP⟩ := hrel
        have HGK : Hid (gk = n - k) := hgk
        have HL := hidP hL
        have HPA := hidP hP
        clear hgk hL hP
        by_cases hkn : k < n
        · have hkl : k < l.length := by rw [← HN.out]; exact hkn
          have hkd : decide ((k : Int) < (n : Int)) = true := decide_eq_true (by omega)
          have hkd' : decide (k < n) = true := decide_eq_true hkn
          obtain ⟨lb, lo, rfl, ce0, ce1⟩ : ∃ lb lo, la = some ⟨lb, lo, none⟩ ∧ wr.cell? ⟨lb, lo + k * 2, none⟩ = some (.int .i64 (l.getD k (0, 0)).1) ∧ wr.cell? ⟨lb, lo + k * 2 + 1, none⟩ = some (.int .i64 (l.getD k (0, 0)).2) := by
            rcases HLI.out wr HL.out.grown with h | ⟨lb, lo, e, h⟩
            · rw [h] at hkl; cases hkl
            · exact ⟨lb, lo, e, (h k hkl).1, (h k hkl).2⟩
          have hpx : 0 ≤ (l.getD k (0, 0)).1 ∧ (l.getD k (0, 0)).1 < 256 := by
            have : l.getD k (0, 0) ∈ l := by rw [List.getD_eq_getElem?_getD, List.getElem?_eq_getElem hkl]; exact List.getElem_mem _
            exact HPP.out _ this
          obtain ⟨e, he⟩ : ∃ e, e = l.getD k (0, 0) := ⟨_, rfl⟩
          have HEE : Hid (e = l.getD k (0, 0)) := he
          rw [← he] at ce0 ce1 hpx
          obtain ⟨x, tv⟩ := e
          obtain ⟨p, rfl⟩ := Int.eq_ofNat_of_zero_le hpx.1
          have hp : p < 256 := by have := hpx.2; simp only [] at this; omega
          have hk0 : (0 : Int) ≤ (k : Int) := by omega
          have hk1 : (k : Int) < (n : Int) := by omega
          obtain ⟨q, hq⟩ : ∃ q, q = b + p := ⟨_, rfl⟩
          have HQQ : Hid (q = b + p) := hq
          have hwr : IntKind.i64.wrap ((b : Int) + (p : Int)) = (q : Int) := by rw [IntKind.wrap_i64, hq]; omega
          have hq26 : q ≤ 67108864 - 256 := by omega
          clear he hpx hq
          simp only [] at ce0 ce1
          go_wp2_with fail
          obtain ⟨s1, hs1⟩ : ∃ s1, s1 = layR i b (s.ow, s.va) (l.take k) := ⟨_, rfl⟩
          have HS1 : Hid (s1 = layR i b (s.ow, s.va) (l.take k)) := hs1
          obtain ⟨g1, g2, g3⟩ := layR_len i b (l.take k) (s.ow, s.va) HE.out (fun e he => HPP.out e (List.mem_of_mem_take he))
          rw [← hs1] at g1 g2 g3 HL HPA
          obtain ⟨xb, hxb⟩ : ∃ v, v = wr.heap.size := ⟨_, rfl⟩
          have HX0 : Hid (EdAt (wr.alloc (.cells #[.int .i64 (p : Int), .int .i64 tv] 60)) xb p tv) := by rw [hxb]; exact heap_alloc_last wr _
          have HL1 : Hid (LyAt w (wr.alloc (.cells #[.int .i64 (p : Int), .int .i64 tv] 60)) rb (lyQ bs' s1.2 s1.1) ua uc) := HL.out.kept (World.grownBy_alloc _ _ none)
          have HP1 : Hid (PasAt (wr.alloc (.cells #[.int .i64 (p : Int), .int .i64 tv] 60)) rb nb o (lyQ bs' s1.2 s1.1) ua uc) := HPA.out.kept (World.grownBy_alloc _ _ none)
          have HG1 : Hid (s1.1.length = s1.2.length) := g1
          have hg3 : s1.1.length ≤ 67108864 := by have h1 := HOL.out; simp only [] at g3; omega
          obtain ⟨L, hLl⟩ : ∃ v, v = s1.1.length := ⟨_, rfl⟩
          have HLL : Hid (L = s1.1.length) := hLl
          rw [← hLl] at hg3
          have HSS : Hid (pad 0 s1.2 L = s1.2 ∧ pad (-1) s1.1 L = s1.1) := ⟨pad_same _ _ _ (by omega), pad_same _ _ _ (by omega)⟩
          rw [← hxb]
          clear hs1 g1 g2 g3 ce0 ce1 hLl hxb HL HPA
          go_loopg [] (q + 1 - L) (fun gk wr => ∃ (m : Nat) (ua : Nat → Option Addr) (uc : Nat → Nat), L ≤ m ∧ m ≤ max L (q + 1) ∧ gk = q + 1 - m ∧ LyAt w wr rb (lyQ bs' (pad 0 s1.2 m) (pad (-1) s1.1 m)) ua uc ∧ EdAt wr xb p tv ∧ PasAt wr rb nb o (lyQ bs' (pad 0 s1.2 m) (pad (-1) s1.1 m)) ua uc)
          case atStart => exact ⟨L, ua, uc, Nat.le_refl _, Nat.le_max_left _ _, rfl, by rw [HSS.out.1, HSS.out.2]; exact HL1.out, HX0.out, by rw [HSS.out.1, HSS.out.2]; exact HP1.out⟩
          case round =>
            clear HL1 HX0 HP1 HSS
            obtain ⟨m, ua, uc, hm1, hm2, hgm, hl, hx, hpa⟩ := hrel
            have HGM : Hid (gk = q + 1 - m) := hgm
            obtain ⟨Q, hQe⟩ : ∃ v, v = lyQ bs' (pad 0 s1.2 m) (pad (-1) s1.1 m) := ⟨_, rfl⟩
            have HQE : Hid (Q = lyQ bs' (pad 0 s1.2 m) (pad (-1) s1.1 m)) := hQe
            have hlo : (Q 2).length = m := by
              rw [hQe]
              show (pad (-1) s1.1 m).length = m
              rw [pad_len, ← HLL.out]; omega
            have hlv : (Q 1).length = m := by
              rw [hQe]
              show (pad 0 s1.2 m).length = m
              rw [pad_len, ← HG1.out, ← HLL.out]; omega
            rw [← hQe] at hl hpa
            obtain ⟨c0, c1, c2⟩ := hl.cell
            rw [hlo] at c2
            rw [hlv] at c1
            by_cases hmq : m ≤ q
            · have d0 : decide ((m : Int) ≤ (q : Int)) = true := decide_eq_true (by omega)
              have d0' : decide (m ≤ q) = true := decide_eq_true hmq
              have hmid := hl.mid hx hpa
              rw [hlo, hlv] at hmid
              have HMID := hidP hmid
              have hmb : m ≤ 134217728 := by omega
              have HLO : Hid ((Q 1).length = m ∧ (Q 2).length = m) := ⟨hlv, hlo⟩
              clear hl hx hpa hmid hgm hQe hlo hlv c0 c1
              conv in (Code.region 9 _ _) => change pgR9
              go_wp2_with fail
              refine pg_r9q HMID.out HLO.out.1 HLO.out.2 hmb ?_
              intro U ua' uc' u43 u44 u45 u46 u47 u48 u49 u50 u51 u52 u53 u54 u55 u56 u57 u58 u59 u60 hL2 hX2 hP2
              have HL2 := hidP hL2
              have HX2 := hidP hX2
              have HP2 := hidP hP2
              clear hL2 hX2 hP2
              go_wp2_with fail
              go_roundg (q + 1 - (m + 1))
              case measure => have h1 := HGM.out; omega
              case rel =>
                have e2 : pad (-1) s1.1 (m + 1) = pad (-1) s1.1 m ++ [-1] := pad_snoc _ _ _ (by rw [← HLL.out]; exact hm1)
                have e1 : pad 0 s1.2 (m + 1) = pad 0 s1.2 m ++ [0] := pad_snoc _ _ _ (by rw [← HG1.out, ← HLL.out]; exact hm1)
                have ee : ∀ j, j < 3 → upZ (upZ Q 1 (Q 1 ++ [0])) 2 (Q 2 ++ [-1]) j = lyQ bs' (pad 0 s1.2 (m + 1)) (pad (-1) s1.1 (m + 1)) j := fun j hj => by
                  rw [HQE.out, e1, e2]
                  match j, hj with
                  | 0, _ => rfl
                  | 1, _ => rfl
                  | 2, _ => rfl
                exact ⟨m + 1, ua', uc', by omega, by omega, rfl, HL2.out.ext ee, HX2.out, HP2.out.ext ee⟩
            · have d0 : decide ((m : Int) ≤ (q : Int)) = false := decide_eq_false (by omega)
              have d0' : decide (m ≤ q) = false := decide_eq_false hmq
              have hq0 : (0 : Int) ≤ (q : Int) := by omega
              have hq1 : (q : Int) < (m : Int) := by omega
              obtain ⟨og, hog, o1, o2⟩ := hl.at (f := 2) (q := q) (by decide) (by rw [hlo]; omega)
              obtain ⟨vg, hvg, v1, v2⟩ := hl.at (f := 1) (q := q) (by decide) (by rw [hlv]; omega)
              rw [hog] at c2
              rw [hvg] at c1
              obtain ⟨oz, hoz⟩ : ∃ v, v = (Q 2).getD q 0 := ⟨_, rfl⟩
              obtain ⟨vz, hvz⟩ : ∃ v, v = (Q 1).getD q 0 := ⟨_, rfl⟩
              rw [← hoz] at o1
              rw [← hvz] at v1
              obtain ⟨v', hy'⟩ := cell?_setCell_some (w := wr) (p := ⟨vg, q, none⟩) (x := .int .i64 tv) (q := ⟨og, q, none⟩) o1
              have x0 : wr.cell? ⟨xb, 0, none⟩ = some (.int .i64 (p : Int)) := by rw [cell_of_row _ _ _ _ _ _ hx]; rfl
              have x1 : wr.cell? ⟨xb, 1, none⟩ = some (.int .i64 tv) := by rw [cell_of_row _ _ _ _ _ _ hx]; rfl
              have hmx : ∀ (z : Int) (t : List Int), t.length = L → pad z t m = pad z t (q + 1) := fun z t e => by
                unfold pad
                rw [e, show m - L = q + 1 - L by omega]
              have h1 := hl.put (f := 1) (q := q) (by decide) hvg tv
              have h2 := hpa.put (f := 1) (q := q) (by decide) hvg tv
              have h3 := h1.put (f := 2) (q := q) (by decide) hog (i : Int)
              have h4 := h2.put (f := 2) (q := q) (by decide) hog (i : Int)
              have ee : ∀ j, j < 3 → upZ (upZ Q 1 ((Q 1).set q tv)) 2 ((upZ Q 1 ((Q 1).set q tv) 2).set q (i : Int)) j = lyQ bs' (layR i b (s.ow, s.va) (l.take (k + 1))).2 (layR i b (s.ow, s.va) (l.take (k + 1))).1 j := fun j hj => by
                rw [layR_snoc i b (s.ow, s.va) hkl, ← HS1.out, ← HEE.out, hQe, hmx 0 _ (by rw [← HG1.out, HLL.out]), hmx (-1) _ (by rw [HLL.out]), HQQ.out]
                match j, hj with
                | 0, _ => rfl
                | 1, _ => rfl
                | 2, _ => rfl
              have H3 := hidP (h3.ext ee)
              have H4 := hidP (h4.ext ee)
              clear h1 h2 h3 h4 hl hx hpa hgm hQe hlo hlv c0 hoz hvz hog hvg hmx
              go_wp2_with fail
              go_region
              all_goals go_wp2_with fail
              go_roundg (n - (k + 1))
              case measure => have h1 := HGK.out; omega
              case rel => exact ⟨k + 1, _, _, by omega, rfl, by go_num, H3.out.kept (grown_drewN _ 1), H4.out.kept (grown_drewN _ 1)⟩
        · have hkd : decide ((k : Int) < (n : Int)) = false := decide_eq_false (by omega)
          have hkd' : decide (k < n) = false := decide_eq_false hkn
          have hkk : k = n := by omega
          subst hkk
          have e : l.take k = l := by rw [HN.out, List.take_length]
          have eS : lyS (layRow s i l) = lyQ bs' (layR i b (s.ow, s.va) l).2 (layR i b (s.ow, s.va) l).1 := by
            unfold layRow lyS
            rw [HBE.out, HBS.out]
          have HFL : Hid (LyAt w wr rb (lyS (layRow s i l)) ua uc) := by
            have h := HL.out
            rw [e] at h
            show LyAt w wr rb (lyS (layRow s i l)) ua uc
            rw [eS]
            exact h
          have HFP : Hid (PasAt wr rb nb o (lyS (layRow s i l)) ua uc) := by
            have h := HPA.out
            rw [e] at h
            show PasAt wr rb nb o (lyS (layRow s i l)) ua uc
            rw [eS]
            exact h
          clear e eS
          go_wp2_with fail
          go_end0
          exact ⟨rfl, ua, uc, HFL.out, HFP.out⟩

end Go.Proofs.Ytgmljpkenipgjaa.J

/-
  pack: the program's laid and Lay: as the document's.
-/
namespace Go.Proofs.Ytgmljpkenipgjaa.J
open Go.RowKit Go.Maps Go.Shelf Pk

attribute [local go_sem] Oper.semAt_some

theorem owns_lowP {w : World} {base base' e size n : Nat} {v : Value} {xs : List Value} (h : w.ownsRow base e size v n xs) (hb : base' ≤ base) : w.ownsRow base' e size v n xs := by
  obtain ⟨h1, h2⟩ := h
  refine ⟨h1, ?_⟩
  rcases h2 with h | ⟨g, cap, cur, a, b, c⟩
  · exact .inl h
  · exact .inr ⟨g, cap, cur, a, Nat.le_trans hb b, c⟩
theorem TrZ.lower {X : World} {B B' n : Nat} {Q : Nat → List Int} {ua : Nat → Option Addr} {uc : Nat → Nat} (h : TrZ X B n Q ua uc) (hb : B' ≤ B) : TrZ X B' n Q ua uc := ⟨fun j hj => owns_lowP (h.inn j hj) hb, h.sep⟩

/-- The rows laid so far, of an order. -/
noncomputable def stK (R : Nat → List Ed) (N k : Nat) : St := ((ordA R N).take k).foldl (stepO R) ⟨List.replicate N 0, [], []⟩
theorem stK_zero (R : Nat → List Ed) (N : Nat) : stK R N 0 = layD R N 0 := by unfold stK; rw [List.take_zero]; rfl
theorem stK_step (R : Nat → List Ed) (N k : Nat) (hk : k < (ordA R N).length) : stK R N (k + 1) = layRow (stK R N k) ((ordA R N).getD k 0) (R ((ordA R N).getD k 0)) := by
  unfold stK
  rw [List.take_add_one, List.getElem?_eq_getElem hk, Option.toList_some, List.foldl_append, List.getD_eq_getElem?_getD, List.getElem?_eq_getElem hk]
  rfl
theorem stK_all (R : Nat → List Ed) (N : Nat) : stK R N (ordA R N).length = lay R N := by
  unfold stK
  rw [List.take_length, lay_ord]
theorem stK_ok (R : Nat → List Ed) (N : Nat) (hM : MayLay N R) : ∀ k, k ≤ (ordA R N).length → StOK N k (stK R N k) ∧ ∀ x ∈ (stK R N k).ow, -1 ≤ x
  | 0, _ => by
    rw [stK_zero]
    exact ⟨StOK.start N, fun x hx => by cases hx⟩
  | k + 1, hk => by
    obtain ⟨h1, h2⟩ := stK_ok R N hM k (by omega)
    rw [stK_step R N k (by omega)]
    have hi : (ordA R N).getD k 0 < N := by
      refine (ordA_mem R N _ fun i hi => (hM.2 i hi).1).1 ?_
      rw [List.getD_eq_getElem?_getD, List.getElem?_eq_getElem (by omega)]
      exact List.getElem_mem _
    refine ⟨h1.row (hM.2 _ hi).2.1, ?_⟩
    show ∀ x ∈ (layR _ _ ((stK R N k).ow, (stK R N k).va) _).1, -1 ≤ x
    exact layR_ge _ _ _ _ h2
theorem ordA_len (R : Nat → List Ed) (N : Nat) (hM : MayLay N R) : (ordA R N).length = N := by
  have h1 : (ordA R N).Nodup := (ordA_pw R N).imp fun {a b} h e => by subst e; exact Bef.irr R a h
  have h2 : (ordA R N).Perm (List.range N) := by
    rw [List.perm_ext_iff_of_nodup h1 List.nodup_range]
    intro x
    rw [ordA_mem R N x fun i hi => (hM.2 i hi).1, List.mem_range]
  have := h2.length_eq
  simpa using this

theorem results_laid (tmps : Array Value) (w : World) (g : Nat) (cs : Array Value) (h2 : tmps.getD 2 undef = .pointer (some ⟨g, 0, none⟩)) (hg : w.heap[g]? = some (.cells cs 26 (0, 0))) (hs : cs.size = 3) :
    (results Try.f29 tmps).run Try.prog w = .ok (.agg cs) w := by
  have h2' : tmps[2]?.getD undef = .pointer (some ⟨g, 0, none⟩) := by simpa using h2
  have hl := run_loadVar_row (P := Try.prog) w g 26 26 cs (0, 0) _ hg Try.underlying26 rfl (by rw [hs]; kernel_rfl)
  simp [results, Try.results29, h2', asAddr, hl]
theorem results_layM (tmps : Array Value) (w : World) (g : Nat) (cs : Array Value) (v : Value) (h2 : tmps.getD 2 undef = .pointer (some ⟨g, 0, none⟩)) (h3 : tmps.getD 3 undef = v) (hg : w.heap[g]? = some (.cells cs 26 (0, 0))) (hs : cs.size = 3) :
    (results Try.f10 tmps).run Try.prog w = .ok (.tuple #[.agg cs, v]) w := by
  have h2' : tmps[2]?.getD undef = .pointer (some ⟨g, 0, none⟩) := by simpa using h2
  have h3' : tmps[3]?.getD undef = v := by simpa using h3
  have hl := run_loadVar_row (P := Try.prog) w g 26 26 cs (0, 0) _ hg Try.underlying26 rfl (by rw [hs]; kernel_rfl)
  simp [results, Try.results10, h2', h3', asAddr, hl]

/-- What laid tells. -/
def LaidTold (N : Nat) (R : Nat → List It) (w : World) (e : Ending) (y : World) : Prop := ∃ (ua : Nat → Option Addr) (uc : Nat → Nat), e = .returned (.agg #[.slice (ua 0) (lay R N).bs.length (uc 0), .slice (ua 1) (lay R N).va.length (uc 1), .slice (ua 2) (lay R N).ow.length (uc 2)]) ∧ TrZ y w.heap.size 3 (lyS (lay R N)) ua uc ∧ w.grownBy y none

set_option maxRecDepth 100000 in
set_option maxHeartbeats 4000000 in
theorem laid_any (a : Option Addr) (N c : Nat) (R : Nat → List It) (la : Nat → Option Addr) (lc : Nat → Nat) (w : World) (hR : RsAt w a N R la lc) (hM : MayLay N R) :
    Calls Try.prog 29 #[.slice a N c] w fun e y => LaidTold N R w e y := by
  have HR : Hid (∀ X, w.grownBy X none → RsAt X a N R la lc) := fun X hX => hR.kept hX
  have HM : Hid (MayLay N R) := hM
  obtain ⟨i0, hi0, hz0, hz1, hz2⟩ := info_parts infoIntP
  have hN2 : N ≤ 256 := hM.1
  have HX0 : Hid ((w.alloc (.cells #[.slice none 0 0, .slice none 0 0, .slice none 0 0] 26)).heap[w.heap.size]? = some (.cells #[.slice none 0 0, .slice none 0 0, .slice none 0 0] 26 (0, 0))) := heap_alloc_last w _
  have HG0 : Hid (w.grownBy (w.alloc (.cells #[.slice none 0 0, .slice none 0 0, .slice none 0 0] 26)) none) := World.grownBy_alloc _ _ none
  clear hR hM
  go_enter Try.func29, Try.ntmps29
  go_wp2_with (at_make; refine wpList_make_full _ rfl _ _ 24 rfl (w.alloc (.cells #[.slice none 0 0, .slice none 0 0, .slice none 0 0] 26)).heap.size 3 i0 (.int .i64 0) 1 Try.underlying24 hi0 hz0 hz1 .i64 .i64 _ _ N rfl rfl (by simp) (by simp) (by rw [hz2]; omega) (by unfold maxLen; omega) (by simp) ?_)
  intro w3 hown hgrow
  obtain ⟨bb, hbb⟩ : ∃ v, v = w.heap.size + 1 := ⟨_, rfl⟩
  rw [← hbb] at hown ⊢
  have hval : ValAt w3 bb N 3 (fun _ => .int .i64 0) := made_rowK (B := bb) rfl (by simpa [Value.cells, hbb] using hown)
  have HLS : Hid (LyAt w (w3.alloc (.cells #[.slice (some ⟨bb, 0, none⟩) N N, .slice none 0 0, .slice none 0 0] 26)) w3.heap.size (lyS (layD R N 0)) (fun j => if j = 0 then some ⟨bb, 0, none⟩ else none) (fun j => if j = 0 then N else 0)) := ly_start (grown_trans HG0.out hgrow) (box_kept HX0.out hgrow) hval (by omega) hN2 R
  clear hown hgrow hval hbb HX0 HG0
  obtain ⟨X, hX⟩ : ∃ X, X = w3.alloc (.cells #[.slice (some ⟨bb, 0, none⟩) N N, .slice none 0 0, .slice none 0 0] 26) := ⟨_, rfl⟩
  obtain ⟨rb, hrb⟩ : ∃ v, v = w3.heap.size := ⟨_, rfl⟩
  rw [← hX, ← hrb] at HLS
  have HBY : Hid (Calls Try.prog 41 #[.slice a N c] X fun e y => ByTold N R X e y) := byEdges_any a N c R la lc X (HR.out X HLS.out.grown) hN2 (fun i hi => (HM.out.2 i hi).1)
  go_wp2_with fail
  rw [← hX, ← hrb]
  clear hX hrb
  refine Calls.mono HBY.out ?_
  rintro e y ⟨nb, rfl, hnb, hvn, hgy⟩
  have HL0 : Hid (LyAt w y rb (lyS (stK R N 0)) (fun j => if j = 0 then some ⟨bb, 0, none⟩ else none) (fun j => if j = 0 then N else 0)) := by
    show LyAt w y rb _ _ _
    rw [stK_zero]
    exact HLS.out.kept hgy
  have HP0 : Hid (PasAt y rb nb (.cells ((List.range N).map fun i => Value.int .i64 ((ordA R N).getD i 0 : Nat)).toArray 3 (0, 0)) (lyS (stK R N 0)) (fun j => if j = 0 then some ⟨bb, 0, none⟩ else none) (fun j => if j = 0 then N else 0)) := by
    show PasAt y rb nb _ _ _ _
    rw [stK_zero]
    refine ⟨hvn, fun j hj h => ?_, fun h => ?_⟩
    · have := ((HLS.out.rows.inn j hj).lt nb h).2
      omega
    · have := (Array.getElem?_eq_some_iff.1 HLS.out.box).1
      omega
  clear hnb hvn hgy HBY HLS
  go_wp2_with fail
  have hOL := ordA_len R N HM.out
  have HOL : Hid ((ordA R N).length = N) := hOL
  clear hOL
  go_loopg [13] N (fun gk v wr => ∃ (k : Nat) (ua : Nat → Option Addr) (uc : Nat → Nat), k ≤ N ∧ gk = N - k ∧ v = .int .i64 k ∧ LyAt w wr rb (lyS (stK R N k)) ua uc ∧ PasAt wr rb nb (.cells ((List.range N).map fun i => Value.int .i64 ((ordA R N).getD i 0 : Nat)).toArray 3 (0, 0)) (lyS (stK R N k)) ua uc)
  case atStart => exact ⟨0, _, _, Nat.zero_le _, rfl, rfl, HL0.out, HP0.out⟩
  case round =>
    clear HL0 HP0
    obtain ⟨k, ua, uc, hk, hgk, rfl, hL, hP⟩ := hrel
    have HL := hidP hL
    have HP := hidP hP
    have HGK : Hid (gk = N - k) := hgk
    by_cases hkn : k < N
    · have hkd : (k : Int) < (N : Int) := by omega
      have hk0 : (0 : Int) ≤ (k : Int) := by omega
      have hni : (ordA R N).getD k 0 < N := by
        refine (ordA_mem R N _ fun i hi => (HM.out.2 i hi).1).1 ?_
        rw [List.getD_eq_getElem?_getD, List.getElem?_eq_getElem (by rw [HOL.out]; exact hkn)]
        exact List.getElem_mem _
      have cn : wr.cell? ⟨nb, k, none⟩ = some (.int .i64 ((ordA R N).getD k 0 : Nat)) := by
        rw [cell_of_row _ _ _ _ _ _ hP.pas]
        simp [hkn]
      have hRw := HR.out wr hL.grown
      have hst := stK_step R N k (by rw [HOL.out]; exact hkn)
      obtain ⟨ok1, ok2⟩ := stK_ok R N HM.out k (by rw [HOL.out]; omega)
      obtain ⟨i, hie⟩ : ∃ v, v = (ordA R N).getD k 0 := ⟨_, rfl⟩
      rw [← hie] at hni cn hst
      obtain ⟨ra, ro, rfl, cr⟩ : ∃ ra ro, a = some ⟨ra, ro, none⟩ ∧ wr.cell? ⟨ra, ro + i, none⟩ = some (.slice (la i) (R i).length (lc i)) := by
        rcases hRw.1 with h | ⟨ra, ro, e, h⟩
        · omega
        · exact ⟨ra, ro, e, h i hni⟩
      have hbl : (stK R N k).bs.length = N := ok1.1
      have hol : (stK R N k).ow.length ≤ 67108864 - 512 := by
        have h1 := ok1.2.2
        have h2 : k * 256 ≤ 256 * 256 := Nat.mul_le_mul_right _ (by omega)
        omega
      have HC := hidP (layRow_any (i := i) (lc := lc i) (la := la i) (R i) hL hP (fun X hX => (HR.out X hX).2 i hni) (HM.out.2 i hni) ok1.2.1 hol ok2 (by rw [hbl]; exact hni) (by rw [hbl]; exact hN2))
      rw [← hst] at HC
      obtain ⟨ln, hln⟩ : ∃ v, v = (R i).length := ⟨_, rfl⟩
      rw [← hln] at cr HC
      have hi0 : (0 : Int) ≤ (i : Int) := by omega
      have hi1 : (i : Int) < (N : Int) := by omega
      clear hgk hL hP hRw hst ok1 ok2 hie hbl hol hln
      go_wp2_with fail
      refine Calls.mono HC.out ?_
      rintro e y2 ⟨rfl, ua2, uc2, hL2, hP2⟩
      have HL2 := hidP hL2
      have HP2 := hidP hP2
      clear hL2 hP2 HC
      go_wp2_with fail
      go_roundg (N - (k + 1))
      case measure => have := HGK.out; omega
      case rel => exact ⟨k + 1, ua2, uc2, by omega, rfl, by go_num, HL2.out, HP2.out⟩
    · have hkd : ¬ (k : Int) < (N : Int) := by omega
      have hkk : k = N := by omega
      subst hkk
      have hall : stK R k k = lay R k := by
        have h := stK_all R k
        rw [HOL.out] at h
        exact h
      rw [hall] at hL
      have HF := hidP hL
      obtain ⟨d0, d1, d2⟩ := hL.cell
      have hres := hL.res
      have r0 : wr.cell? ⟨w.heap.size, 0, none⟩ = some (.slice none 0 0) := by rw [cell_of_row _ _ _ _ _ _ hres]; rfl
      have r1 : wr.cell? ⟨w.heap.size, 1, none⟩ = some (.slice none 0 0) := by rw [cell_of_row _ _ _ _ _ _ hres]; rfl
      have r2 : wr.cell? ⟨w.heap.size, 2, none⟩ = some (.slice none 0 0) := by rw [cell_of_row _ _ _ _ _ _ hres]; rfl
      have rf0 : wr.frozen? ⟨w.heap.size, 0, none⟩ = false := frozen_of_row _ _ _ _ _ hres
      have rf1 : wr.frozen? ⟨w.heap.size, 1, none⟩ = false := frozen_of_row _ _ _ _ _ hres
      have rf2 : wr.frozen? ⟨w.heap.size, 2, none⟩ = false := frozen_of_row _ _ _ _ _ hres
      have HRES := hidP hres
      have HEND := ly_end (w := w) hL.grown
      clear hres hL hP HL HP hall hgk
      go_wp2_with fail
      exact ⟨rfl, _, results_laid _ _ w.heap.size _ rfl (ly_set3 HRES.out _ _ _) rfl, ua, uc, rfl, ly_rows HF.out _ _ _, HEND.out _ _ _⟩

end Go.Proofs.Ytgmljpkenipgjaa.J

/-
  pack: the program's Lay: as the document's.
-/
namespace Go.Proofs.Ytgmljpkenipgjaa.J
open Go.RowKit Go.Maps Go.Shelf Pk

attribute [local go_sem] Oper.semAt_some

set_option maxRecDepth 100000 in
set_option maxHeartbeats 2000000 in
theorem layM_any (a : Option Addr) (N c : Nat) (R : Nat → List It) (la : Nat → Option Addr) (lc : Nat → Nat) (w : World) (hR : RsAt w a N R la lc) (hN : N ≤ 17592186044416) (hl : ∀ i, i < N → (R i).length ≤ 17592186044416) :
    Calls Try.prog 10 #[.slice a N c] w fun e y => LayTold N R w e y := by
  obtain ⟨r, hr⟩ : ∃ r : Bool, r = true ↔ MayLay N R := by
    by_cases h : MayLay N R
    · exact ⟨true, by simp [h]⟩
    · exact ⟨false, by simp [h]⟩
  obtain ⟨W1, hW1⟩ : ∃ W, W = w.alloc (.cells #[.slice none 0 0, .slice none 0 0, .slice none 0 0] 26) := ⟨_, rfl⟩
  have hg0 : w.grownBy W1 none := by rw [hW1]; exact World.grownBy_alloc _ _ none
  have HX0 : Hid (W1.heap[w.heap.size]? = some (.cells #[.slice none 0 0, .slice none 0 0, .slice none 0 0] 26 (0, 0))) := by show _ = _; rw [hW1]; exact heap_alloc_last w _
  have HG0 : Hid (w.grownBy W1 none) := hg0
  have HR := hidP hr
  have HA := hidP (areRows_any a N c R la lc W1 (hR.kept hg0) hN hl r hr)
  have HLD : Hid (MayLay N R → ∀ X, w.grownBy X none → Calls Try.prog 29 #[.slice a N c] X fun e y => LaidTold N R X e y) := fun hm X hX => laid_any a N c R la lc X (hR.kept hX) hm
  have hs1 : W1.heap.size = w.heap.size + 1 := by rw [hW1]; simp
  clear hR hr hl hg0
  go_enter Try.func10, Try.ntmps10
  go_wp2_with fail
  rw [← hW1]
  clear hW1
  refine Calls.mono HA.out ?_
  rintro e y ⟨rfl, hy⟩
  have HY := hidP hy
  have HBX : Hid (y.heap[w.heap.size]? = some (.cells #[.slice none 0 0, .slice none 0 0, .slice none 0 0] 26 (0, 0))) := box_kept HX0.out hy
  have HGY : Hid (w.grownBy y none) := grown_trans HG0.out hy
  clear hy
  cases r with
  | false =>
    have HM : Hid (¬ MayLay N R) := fun h => by have := HR.out.2 h; cases this
    have r0 : y.cell? ⟨w.heap.size, 0, none⟩ = some (.slice none 0 0) := by rw [cell_of_row _ _ _ _ _ _ HBX.out]; rfl
    have r1 : y.cell? ⟨w.heap.size, 1, none⟩ = some (.slice none 0 0) := by rw [cell_of_row _ _ _ _ _ _ HBX.out]; rfl
    have r2 : y.cell? ⟨w.heap.size, 2, none⟩ = some (.slice none 0 0) := by rw [cell_of_row _ _ _ _ _ _ HBX.out]; rfl
    have rf0 : y.frozen? ⟨w.heap.size, 0, none⟩ = false := frozen_of_row _ _ _ _ _ HBX.out
    have rf1 : y.frozen? ⟨w.heap.size, 1, none⟩ = false := frozen_of_row _ _ _ _ _ HBX.out
    have rf2 : y.frozen? ⟨w.heap.size, 2, none⟩ = false := frozen_of_row _ _ _ _ _ HBX.out
    have HEND := ly_end (w := w) HGY.out
    clear HLD HA HX0 HG0 hs1
    go_wp2_with fail
    exact ⟨rfl, _, results_layM _ _ w.heap.size _ _ rfl rfl (ly_set3 HBX.out _ _ _) rfl, .inl ⟨HM.out, rfl, HEND.out _ _ _⟩⟩
  | true =>
    have hm := HR.out.1 rfl
    have HM := hidP hm
    have HC := hidP (HLD.out hm y HGY.out)
    clear hm HLD HA
    go_wp2_with fail
    refine Calls.mono HC.out ?_
    rintro e z ⟨ua, uc, rfl, hT, hz⟩
    have HBZ : Hid (z.heap[w.heap.size]? = some (.cells #[.slice none 0 0, .slice none 0 0, .slice none 0 0] 26 (0, 0))) := box_kept HBX.out hz
    have HGZ : Hid (w.grownBy z none) := grown_trans HGY.out hz
    have HT : Hid (TrZ z w.heap.size 3 (lyS (lay R N)) ua uc) := TrZ.lower hT HGY.out.size
    have r0 : z.cell? ⟨w.heap.size, 0, none⟩ = some (.slice none 0 0) := by rw [cell_of_row _ _ _ _ _ _ HBZ.out]; rfl
    have r1 : z.cell? ⟨w.heap.size, 1, none⟩ = some (.slice none 0 0) := by rw [cell_of_row _ _ _ _ _ _ HBZ.out]; rfl
    have r2 : z.cell? ⟨w.heap.size, 2, none⟩ = some (.slice none 0 0) := by rw [cell_of_row _ _ _ _ _ _ HBZ.out]; rfl
    have rf0 : z.frozen? ⟨w.heap.size, 0, none⟩ = false := frozen_of_row _ _ _ _ _ HBZ.out
    have rf1 : z.frozen? ⟨w.heap.size, 1, none⟩ = false := frozen_of_row _ _ _ _ _ HBZ.out
    have rf2 : z.frozen? ⟨w.heap.size, 2, none⟩ = false := frozen_of_row _ _ _ _ _ HBZ.out
    have HEND := ly_end (w := w) HGZ.out
    have HTT : Hid (∀ u0 u1 u2, TrZ (((z.setCell ⟨w.heap.size, 0, none⟩ u0).setCell ⟨w.heap.size, 1, none⟩ u1).setCell ⟨w.heap.size, 2, none⟩ u2) w.heap.size 3 (lyS (lay R N)) ua uc) := fun u0 u1 u2 => by
      have h1 := heap_setCell_same _ _ 0 _ _ u0 HBZ.out
      have h2 := heap_setCell_same _ _ 1 _ _ u1 h1
      exact ((HT.out.beside HBZ.out (by decide) (grown_setCell _ _ _)).beside h1 (by decide) (grown_setCell _ _ _)).beside h2 (by decide) (grown_setCell _ _ _)
    clear hT hz HC
    go_wp2_with fail
    exact ⟨rfl, _, results_layM _ _ w.heap.size _ _ rfl rfl (ly_set3 HBZ.out _ _ _) rfl, .inr ⟨HM.out, ua, uc, rfl, HTT.out _ _ _, HEND.out _ _ _⟩⟩

end Go.Proofs.Ytgmljpkenipgjaa.J

/-
  pack: the law's lentRows: rows of one's own, each with an edge behind it.
-/
namespace Go.Proofs.Ytgmljpkenipgjaa.J
open Go.RowKit Go.Maps Go.Shelf Pk

attribute [local go_sem] Oper.semAt_some

theorem infoEdgeP : (Try.prog.info? 60).map (fun i => (i.zero, i.size, i.bytes)) = some (some (.agg #[.int .i64 0, .int .i64 0]), 2, 16) := by kernel_rfl
theorem infoRowE : (Try.prog.info? 58).map (fun i => (i.zero, i.size, i.bytes)) = some (some (.slice none 0 0), 1, 24) := by kernel_rfl
def rowsE (K : Nat) (R : Nat → List It) (ua : Nat → Option Addr) (uc : Nat → Nat) : List Value := (List.range K).map fun j => .slice (ua j) (R j).length (uc j)
theorem rowsE_at {K j : Nat} (R : Nat → List It) (ua : Nat → Option Addr) (uc : Nat → Nat) (hj : j < K) : (rowsE K R ua uc)[j]? = some (.slice (ua j) (R j).length (uc j)) := by unfold rowsE; simp [hj]
theorem rowsE_snoc (K : Nat) (R : Nat → List It) (ua : Nat → Option Addr) (uc : Nat → Nat) (a : Option Addr) (c : Nat) : rowsE (K + 1) R (upZ ua K a) (upZ uc K c) = rowsE K R ua uc ++ [.slice a (R K).length c] := by
  unfold rowsE
  rw [List.range_succ, List.map_append]
  congr 1
  · refine List.map_congr_left fun j hj => ?_
    have : j ≠ K := by have := List.mem_range.1 hj; omega
    rw [upZ_other _ _ this, upZ_other _ _ this]
  · simp [upZ_same]
/-- A row with what stands behind it. -/
def behE (l : List It) : List It := l ++ [(-5, -5)]
/-- Lent rows under way: K of them. -/
structure LeP (X : World) (B : Nat) (ka : Option Addr) (kc K : Nat) (R : Nat → List It) (ua : Nat → Option Addr) (uc : Nat → Nat) : Prop where
  out : X.ownsRow B 58 1 (.slice ka K kc) K (rowsE K R ua uc)
  inn : ∀ j, j < K → X.ownsRow B 60 2 (.slice (ua j) ((R j).length + 1) (uc j)) ((R j).length + 1) (itsV (behE (R j)))
theorem LeP.kept {X Y : World} {B : Nat} {ka : Option Addr} {kc K : Nat} {R : Nat → List It} {ua : Nat → Option Addr} {uc : Nat → Nat} (h : LeP X B ka kc K R ua uc) (hg : X.grownBy Y none) : LeP Y B ka kc K R ua uc := ⟨keep0 h.out hg, fun j hj => keep0 (h.inn j hj) hg⟩
/-- A row more. -/
theorem LeP.push {X Y : World} {B : Nat} {ka ka' : Option Addr} {kc kc' K : Nat} {R : Nat → List It} {ua : Nat → Option Addr} {uc : Nat → Nat} {a : Option Addr} {c : Nat} (h : LeP X B ka kc K R ua uc) (hr : X.ownsRow B 60 2 (.slice a ((R K).length + 1) c) ((R K).length + 1) (itsV (behE (R K)))) (hg : X.grownBy Y (Value.slice ka K kc).ownBlock) (ho : Y.ownsRow B 58 1 (.slice ka' (K + 1) kc') (K + 1) (rowsE K R ua uc ++ [.slice a (R K).length c])) : LeP Y B ka' kc' (K + 1) R (upZ ua K a) (upZ uc K c) := by
  refine ⟨by rw [rowsE_snoc]; exact ho, fun j hj => ?_⟩
  by_cases e : j = K
  · subst e
    rw [upZ_same, upZ_same]
    exact row_row hr h.out (by decide) hg
  · rw [upZ_other _ _ e, upZ_other _ _ e]
    exact row_row (h.inn j (by omega)) h.out (by decide) hg
theorem owned_its {X : World} {B n c : Nat} {a : Option Addr} {l : List It} (h : X.ownsRow B 60 2 (.slice a n c) n (itsV l)) (hn : n = l.length) : ItsAt X a l := by
  by_cases e : l = []
  · exact .inl e
  · rcases h.2 with ⟨hv, h0⟩ | ⟨g, cap, cur, hv, _, hh, _, _, hs, ht⟩
    · have : l.length = 0 := by omega
      exact absurd (List.eq_nil_of_length_eq_zero this) e
    · simp only [Value.slice.injEq] at hv
      refine .inr ⟨g, 0, hv.1, fun i hi => ?_⟩
      rw [hv.1] at h
      have h1 := itsV_at l i hi
      exact ⟨by rw [Nat.zero_add]; exact owns_cell h h1.1, by rw [Nat.zero_add]; exact owns_cell h h1.2⟩
theorem LeP.rs {X : World} {B : Nat} {ka : Option Addr} {kc K : Nat} {R : Nat → List It} {ua : Nat → Option Addr} {uc : Nat → Nat} (h : LeP X B ka kc K R ua uc) : RsAt X ka K R ua uc ∧ (∀ i, i < K → ItsAt X (ua i) (behE (R i))) ∧ ∀ i, i < K → (R i).length + 1 ≤ uc i := by
  have hb : ∀ i, i < K → ItsAt X (ua i) (behE (R i)) := fun i hi => owned_its (h.inn i hi) (by unfold behE; simp)
  refine ⟨⟨?_, fun i hi => ?_⟩, hb, fun i hi => ?_⟩
  · by_cases e : K = 0
    · exact .inl e
    · obtain ⟨g, c, hg, hc⟩ := owns_at h.out (by omega)
      simp only [Value.slice.injEq] at hg
      exact .inr ⟨g, 0, hg.1, fun i hi => by rw [Nat.zero_add]; exact hc i _ (rowsE_at R ua uc hi)⟩
  · rcases hb i hi with h1 | ⟨b, off, e, h1⟩
    · unfold behE at h1
      simp at h1
    · refine .inr ⟨b, off, e, fun j hj => ?_⟩
      have h2 := h1 j (by unfold behE; simp; omega)
      have e2 : (behE (R i)).getD j (0, 0) = (R i).getD j (0, 0) := by
        unfold behE
        rw [List.getD_eq_getElem?_getD, List.getElem?_append_left hj, List.getD_eq_getElem?_getD]
      rw [e2] at h2
      exact h2
  · rcases (h.inn i hi).2 with ⟨_, h0⟩ | ⟨g, cap, cur, hv, _, _, hn, _⟩
    · omega
    · simp only [Value.slice.injEq] at hv
      omega

/-- What lentRows tells. -/
def LenTold (w : World) (N : Nat) (R : Nat → List It) (e : Ending) (y : World) : Prop := ∃ ka kc ua uc, e = .returned (.slice ka N kc) ∧ LeP y w.heap.size ka kc N R ua uc ∧ w.grownBy y none

end Go.Proofs.Ytgmljpkenipgjaa.J

/-
  pack: the program's isHalf of numbers, and what a goto may be.
-/
namespace Go.Proofs.Ytgmljpkenipgjaa.J
open Go.RowKit Go.Maps Go.Shelf Pk

attribute [local go_sem] Oper.semAt_some

theorem hidH {p : Prop} (h : p) : Hid p := h
/-- Rows of numbers in memory. -/
def RiAt (X : World) (a : Option Addr) (N : Nat) (Q : Nat → List Int) (ua : Nat → Option Addr) (uc : Nat → Nat) : Prop := (N = 0 ∨ ∃ ra ro, a = some ⟨ra, ro, none⟩ ∧ ∀ i, i < N → X.cell? ⟨ra, ro + i, none⟩ = some (.slice (ua i) (Q i).length (uc i))) ∧ ∀ i, i < N → IntsAt X (ua i) (Q i)
theorem RiAt.kept {X Y : World} {a : Option Addr} {N : Nat} {Q : Nat → List Int} {ua : Nat → Option Addr} {uc : Nat → Nat} (h : RiAt X a N Q ua uc) (hg : X.grownBy Y none) : RiAt Y a N Q ua uc := by
  refine ⟨?_, fun i hi => (h.2 i hi).kept hg⟩
  rcases h.1 with h | ⟨ra, ro, e, h1⟩
  · exact .inl h
  · exact .inr ⟨ra, ro, e, fun i hi => hg.cell (h1 i hi) (by simp)⟩
/-- Are lists of one length that may be? -/
def HalfOk (N : Nat) (len : Nat → Nat) : Prop := 0 < N ∧ 0 < len 0 ∧ len 0 ≤ 65 ∧ ∀ i, i < N → len i = len 0
/-- May a goto stand in a table of n states? -/
def GotoOk (z n : Int) : Prop := -1 ≤ z ∧ z < n

set_option maxRecDepth 100000 in
theorem isGoto_any (z : Int) (sb n : Nat) (X : World) (hc : X.cell? ⟨sb, 0, none⟩ = some (.int .i64 (n : Int))) (r : Bool) (hr : r = true ↔ GotoOk z n) :
    Calls Try.prog 43 #[.int .i64 z, .pointer (some ⟨sb, 0, none⟩)] X fun e y => e = .returned (.bool r) ∧ X.grownBy y none := by
  have HT : Hid (GotoOk z n → true = r) := fun h => (hr.2 h).symm
  have HN : Hid (¬ GotoOk z n → false = r) := fun h => by
    cases hrr : r with
    | false => rfl
    | true => exact absurd (hr.1 hrr) h
  clear hr
  by_cases a1 : -1 ≤ z
  · have d1 : decide (-1 ≤ z) = true := decide_eq_true a1
    by_cases a2 : z < (n : Int)
    · have d2 : decide (z < (n : Int)) = true := decide_eq_true a2
      have HF : Hid (true = r) := HT.out ⟨a1, a2⟩
      clear a1 a2
      go_enter Try.func43, Try.ntmps43
      go_wp2_with fail
      go_ret
      exact ⟨congrArg (fun v => Ending.returned (Value.bool v)) HF.out, grown_refl _ _⟩
    · have d2 : decide (z < (n : Int)) = false := decide_eq_false a2
      have HF : Hid (false = r) := HN.out (fun h => a2 h.2)
      clear a1 a2
      go_enter Try.func43, Try.ntmps43
      go_wp2_with fail
      go_ret
      exact ⟨congrArg (fun v => Ending.returned (Value.bool v)) HF.out, grown_refl _ _⟩
  · have d1 : decide (-1 ≤ z) = false := decide_eq_false a1
    have HF : Hid (false = r) := HN.out (fun h => a1 h.1)
    clear a1
    go_enter Try.func43, Try.ntmps43
    go_wp2_with fail
    go_ret
    exact ⟨congrArg (fun v => Ending.returned (Value.bool v)) HF.out, grown_refl _ _⟩

set_option maxRecDepth 100000 in
set_option maxHeartbeats 4000000 in
theorem isHalfI_any (sb ns : Nat) (a : Option Addr) (N c : Nat) (Q : Nat → List Int) (ua : Nat → Option Addr) (uc : Nat → Nat) (w : World) (hs : w.cell? ⟨sb, 0, none⟩ = some (.int .i64 (ns : Int))) (hR : RiAt w a N Q ua uc) (hN : N ≤ 17592186044416) (hl : ∀ i, i < N → (Q i).length ≤ 17592186044416) (r : Bool) (hr : r = true ↔ HalfOk N (fun i => (Q i).length) ∧ ∀ i, i < N → ∀ x ∈ Q i, GotoOk x ns) :
    Calls Try.prog 47 #[.func (.func 43) #[] #[.pointer (some ⟨sb, 0, none⟩)], .slice a N c] w fun e y => e = .returned (.bool r) ∧ w.grownBy y none := by
  have HT : Hid ((HalfOk N (fun i => (Q i).length) ∧ ∀ i, i < N → ∀ x ∈ Q i, GotoOk x ns) → true = r) := fun h => (hr.2 h).symm
  have HN : Hid (¬ (HalfOk N (fun i => (Q i).length) ∧ ∀ i, i < N → ∀ x ∈ Q i, GotoOk x ns) → false = r) := fun h => by
    cases hrr : r with
    | false => rfl
    | true => exact absurd (hr.1 hrr) h
  have HR : Hid (∀ X, w.grownBy X none → RiAt X a N Q ua uc) := fun X hX => hR.kept hX
  have HS : Hid (∀ X, w.grownBy X none → X.cell? ⟨sb, 0, none⟩ = some (.int .i64 (ns : Int))) := fun X hX => hX.cell hs (by simp)
  have HL := hidH hl
  clear hr hR hs hl
  by_cases h0 : N = 0
  · subst h0
    have HF : Hid (false = r) := HN.out (fun h => by have := h.1.1; omega)
    go_enter Try.func47, Try.ntmps47
    go_wp2_with fail
    go_ret
    exact ⟨congrArg (fun v => Ending.returned (Value.bool v)) HF.out, grown_refl _ _⟩
  · obtain ⟨ra, ro, rfl, hc⟩ : ∃ ra ro, a = some ⟨ra, ro, none⟩ ∧ ∀ i, i < N → w.cell? ⟨ra, ro + i, none⟩ = some (.slice (ua i) (Q i).length (uc i)) := by
      rcases (HR.out w (grown_refl _ _)).1 with h | h
      · exact absurd h h0
      · exact h
    have c0 := hc 0 (by omega)
    rw [Nat.add_zero] at c0
    have HC : Hid (∀ X, w.grownBy X none → ∀ i, i < N → X.cell? ⟨ra, ro + i, none⟩ = some (.slice (ua i) (Q i).length (uc i))) := fun X hX i hi => hX.cell (hc i hi) (by simp)
    obtain ⟨n0, hn0⟩ : ∃ v, v = (Q 0).length := ⟨_, rfl⟩
    have HN0 : Hid (n0 = (Q 0).length) := hn0
    obtain ⟨u0, hu0⟩ : ∃ v, v = ua 0 := ⟨_, rfl⟩
    obtain ⟨d0, hd0⟩ : ∃ v, v = uc 0 := ⟨_, rfl⟩
    rw [← hn0, ← hu0, ← hd0] at c0
    have HC0 : Hid (∀ X, w.grownBy X none → X.cell? ⟨ra, ro, none⟩ = some (.slice u0 n0 d0)) := fun X hX => hX.cell c0 (by simp)
    have hNi : (0 : Int) < (N : Int) := by omega
    have hNe : ((N : Int) == 0) = false := beq_eq_false_iff_ne.2 (by omega)
    have hNe' : (N == 0) = false := beq_eq_false_iff_ne.2 h0
    clear hn0 hu0 hd0 hc
    by_cases h1 : n0 = 0
    · have HF : Hid (false = r) := HN.out (fun h => by have h2 := h.1.2.1; have h3 := HN0.out; simp only [] at h2; omega)
      subst h1
      go_enter Try.func47, Try.ntmps47
      go_wp2_with fail
      go_ret
      exact ⟨congrArg (fun v => Ending.returned (Value.bool v)) HF.out, grown_refl _ _⟩
    · have e1 : ((n0 : Int) == 0) = false := beq_eq_false_iff_ne.2 (by omega)
      have e1' : (n0 == 0) = false := beq_eq_false_iff_ne.2 h1
      by_cases h2 : 65 < n0
      · have HF : Hid (false = r) := HN.out (fun h => by have h2 := h.1.2.2.1; have h3 := HN0.out; simp only [] at h2; omega)
        have d2 : decide (65 < n0) = true := decide_eq_true h2
        have d2' : decide ((65 : Int) < (n0 : Int)) = true := decide_eq_true (by omega)
        clear h1 h2
        go_enter Try.func47, Try.ntmps47
        go_wp2_with fail
        go_ret
        exact ⟨congrArg (fun v => Ending.returned (Value.bool v)) HF.out, grown_refl _ _⟩
      · have d2 : decide (65 < n0) = false := decide_eq_false h2
        have d2' : decide ((65 : Int) < (n0 : Int)) = false := decide_eq_false (by omega)
        have HB : Hid (0 < n0 ∧ n0 ≤ 65) := ⟨by omega, by omega⟩
        clear h1 h2
        go_enter Try.func47, Try.ntmps47
        go_wp2_with fail
        clear c0
        go_loopg [28] N (fun gk v wr => ∃ k : Nat, k ≤ N ∧ gk = N - k ∧ v = .int .i64 k ∧ Hid (∀ i, i < k → (Q i).length = n0 ∧ ∀ x ∈ Q i, GotoOk x ns) ∧ w.grownBy wr none)
        case atStart => exact ⟨0, Nat.zero_le _, rfl, rfl, fun i hi => absurd hi (Nat.not_lt_zero _), grown_refl _ _⟩
        case round =>
          obtain ⟨k, hk, hgk, rfl, HD, hg⟩ := hrel
          have HGK : Hid (gk = N - k) := hgk
          have HG := hidH hg
          have c0 := HC0.out wr hg
          clear hgk
          by_cases hkn : k < N
          · have hkd : decide (k < N) = true := decide_eq_true hkn
            have hk0 : (0 : Int) ≤ (k : Int) := by omega
            have hk1 : (k : Int) < (N : Int) := by omega
            have ck := HC.out wr hg k hkn
            obtain ⟨n1, hn1⟩ : ∃ v, v = (Q k).length := ⟨_, rfl⟩
            have HN1 : Hid (n1 = (Q k).length) := hn1
            have hnb : n1 ≤ 17592186044416 := by rw [hn1]; exact HL.out k hkn
            obtain ⟨uk, huk⟩ : ∃ v, v = ua k := ⟨_, rfl⟩
            have HIT : Hid (∀ X, w.grownBy X none → IntsAt X uk (Q k)) := by rw [huk]; exact fun X hX => (HR.out X hX).2 k hkn
            rw [← hn1, ← huk] at ck
            clear hn1 huk
            by_cases hne : n1 = n0
            · have f1 : (n0 != n0) = false := bne_self_eq_false _
              have f1' : ((n0 : Int) != (n0 : Int)) = false := bne_self_eq_false _
              subst hne
              clear hg
              go_wp2_with fail
              clear c0 ck
              go_loopg [41] n1 (fun gk v wr => ∃ j : Nat, j ≤ n1 ∧ gk = n1 - j ∧ v = .int .i64 j ∧ Hid (∀ x ∈ (Q k).take j, GotoOk x ns) ∧ w.grownBy wr none)
              case atStart => exact ⟨0, Nat.zero_le _, rfl, rfl, fun x hx => by simp at hx, HG.out⟩
              case round =>
                clear HG
                obtain ⟨j, hj, hgj, rfl, HX, hg⟩ := hrel
                have HGJ : Hid (gk = n1 - j) := hgj
                have HG := hidH hg
                clear hgj
                by_cases hjn : j < n1
                · have hjd : decide (j < n1) = true := decide_eq_true hjn
                  have hj0 : (0 : Int) ≤ (j : Int) := by omega
                  have hj1 : (j : Int) < (n1 : Int) := by omega
                  have hjl : j < (Q k).length := by rw [← HN1.out]; exact hjn
                  have cs := HS.out wr hg
                  have HMM : Hid ((Q k).getD j 0 ∈ Q k) := by rw [List.getD_eq_getElem?_getD, List.getElem?_eq_getElem hjl]; exact List.getElem_mem _
                  have HTK : Hid (∀ x ∈ (Q k).take (j + 1), x ∈ (Q k).take j ∨ x = (Q k).getD j 0) := fun x hx => by
                    rw [List.take_add_one, List.getElem?_eq_getElem hjl, Option.toList_some, List.mem_append] at hx
                    rcases hx with hx | hx
                    · exact .inl hx
                    · refine .inr ?_
                      rw [List.getD_eq_getElem?_getD, List.getElem?_eq_getElem hjl]
                      simpa using hx
                  obtain ⟨lb, lo, rfl, t0⟩ : ∃ b o, uk = some ⟨b, o, none⟩ ∧ wr.cell? ⟨b, o + j, none⟩ = some (.int .i64 ((Q k).getD j 0)) := by
                    rcases HIT.out wr hg with h | ⟨b, o, e, h⟩
                    · rw [h] at hjl; cases hjl
                    · exact ⟨b, o, e, h j hjl⟩
                  obtain ⟨z, hz⟩ : ∃ v, v = (Q k).getD j 0 := ⟨_, rfl⟩
                  rw [← hz] at t0 HMM HTK
                  obtain ⟨r1, hr1⟩ : ∃ r : Bool, r = true ↔ GotoOk z ns := by
                    by_cases h : GotoOk z ns
                    · exact ⟨true, by simp [h]⟩
                    · exact ⟨false, by simp [h]⟩
                  have HR1 := hidH hr1
                  have HCC := hidH (isGoto_any z sb ns wr cs r1 hr1)
                  clear hz hr1 cs hg
                  go_wp2_with fail
                  refine Calls.mono HCC.out ?_
                  rintro e y ⟨rfl, hy⟩
                  have HY : Hid (w.grownBy y none) := grown_trans HG.out hy
                  clear hy HCC
                  cases r1 with
                  | false =>
                    have HF : Hid (false = r) := HN.out (fun h => absurd (HR1.out.2 (h.2 k hkn z HMM.out)) (by decide))
                    go_wp2_with fail
                    go_ret
                    exact ⟨congrArg (fun v => Ending.returned (Value.bool v)) HF.out, HY.out⟩
                  | true =>
                    have HZ : Hid (GotoOk z ns) := HR1.out.1 rfl
                    go_wp2_with fail
                    go_roundg (n1 - (j + 1))
                    case measure => have := HGJ.out; omega
                    case rel => exact ⟨j + 1, by omega, rfl, by go_num, fun x hx => by
                      rcases HTK.out x hx with h | h
                      · exact HX.out x h
                      · rw [h]; exact HZ.out, HY.out⟩
                · have hjd : decide (j < n1) = false := decide_eq_false hjn
                  have HDK : Hid (∀ i, i < k + 1 → (Q i).length = n1 ∧ ∀ x ∈ Q i, GotoOk x ns) := fun i hi => by
                    by_cases e : i = k
                    · subst e
                      have h1 := HX.out
                      rw [List.take_of_length_le (by have := HN1.out; omega)] at h1
                      exact ⟨HN1.out.symm, h1⟩
                    · exact HD.out i (by omega)
                  clear hg
                  go_wp2_with fail
                  go_roundg (N - (k + 1))
                  case measure => have := HGK.out; omega
                  case rel => exact ⟨k + 1, by omega, rfl, by go_num, HDK.out, HG.out⟩
            · have f1 : (n1 != n0) = true := by rw [bne_iff_ne]; exact hne
              have f1' : ((n1 : Int) != (n0 : Int)) = true := by rw [bne_iff_ne]; omega
              have HF : Hid (false = r) := HN.out (fun h => by
                have h1 := h.1.2.2.2 k hkn
                have h2 := HN0.out
                have h3 := HN1.out
                simp only [] at h1
                omega)
              clear hg hne
              go_wp2_with fail
              go_ret
              exact ⟨congrArg (fun v => Ending.returned (Value.bool v)) HF.out, HG.out⟩
          · have hkd : decide (k < N) = false := decide_eq_false hkn
            have HF : Hid (true = r) := HT.out ⟨⟨by omega, by have := HB.out; have := HN0.out; show 0 < (Q 0).length; omega, by have := HB.out; have := HN0.out; show (Q 0).length ≤ 65; omega, fun i hi => by
              have h1 := (HD.out i (by omega)).1
              have h2 := HN0.out
              show (Q i).length = (Q 0).length
              omega⟩, fun i hi => (HD.out i (by omega)).2⟩
            clear hg
            go_wp2_with fail
            go_ret
            exact ⟨congrArg (fun v => Ending.returned (Value.bool v)) HF.out, HG.out⟩

end Go.Proofs.Ytgmljpkenipgjaa.J

/-
  pack: the program's mostOften of lists of states, by a nonterminal (printed by tools/pk_mostl.py).
-/
namespace Go.Proofs.Ytgmljpkenipgjaa.J
open Go.RowKit Go.Maps Go.Shelf Pk

attribute [local go_sem] Oper.semAt_some

/-- The states to which lists lead by a nonterminal. -/
def colL (Q : Nat → List Int) (N nn : Nat) : List Int := (List.range N).map fun i => (Q i).getD nn 0
theorem colL_snoc {Q : Nat → List Int} {N nn k : Nat} (h : k < N) : (colL Q N nn).take (k + 1) = (colL Q N nn).take k ++ [(Q k).getD nn 0] := by
  unfold colL
  rw [← List.map_take, ← List.map_take, List.take_range, List.take_range, show min (k + 1) N = k + 1 by omega, show min k N = k by omega, List.range_succ, List.map_append]
  rfl
set_option maxRecDepth 100000 in
theorem colF_any (a : Option Addr) (c nb nn : Nat) (l : List Int) (X : World) (hl : IntsAt X a l) (hc : X.cell? ⟨nb, 0, none⟩ = some (.int .i64 (nn : Int))) (hn : nn < l.length) :
    Calls Try.prog 52 #[.slice a l.length c, .pointer (some ⟨nb, 0, none⟩)] X fun e y => e = .returned (.int .i64 (l.getD nn 0)) ∧ X.grownBy y none := by
  obtain ⟨b, o, rfl, t0⟩ : ∃ b o, a = some ⟨b, o, none⟩ ∧ X.cell? ⟨b, o + nn, none⟩ = some (.int .i64 (l.getD nn 0)) := by
    rcases hl with h | ⟨b, o, e, h⟩
    · rw [h] at hn; cases hn
    · exact ⟨b, o, e, h nn hn⟩
  obtain ⟨n, hnn⟩ : ∃ v, v = l.length := ⟨_, rfl⟩
  rw [← hnn] at hn ⊢
  obtain ⟨v, hv⟩ : ∃ v, v = l.getD nn 0 := ⟨_, rfl⟩
  rw [← hv] at t0 ⊢
  have h0 : (0 : Int) ≤ (nn : Int) := by omega
  have h1 : (nn : Int) < (n : Int) := by omega
  clear hl hnn hv
  go_enter Try.func52, Try.ntmps52
  go_wp2_with fail
  go_ret
  exact ⟨rfl, grown_refl _ _⟩

set_option maxRecDepth 100000 in
set_option maxHeartbeats 4000000 in
theorem mostL_any (a : Option Addr) (N c nb nn : Nat) (Q : Nat → List Int) (ua : Nat → Option Addr) (uc : Nat → Nat) (w : World) (hl : RiAt w a N Q ua uc) (hcn : w.cell? ⟨nb, 0, none⟩ = some (.int .i64 (nn : Int))) (hlen : N ≤ 1048576) (hqn : ∀ i, i < N → nn < (Q i).length) (hin : InM (colL Q N nn)) :
    Calls Try.prog 51 #[.func (.func 52) #[] #[.pointer (some ⟨nb, 0, none⟩)], .slice a N c] w fun e y => e = .returned (.int .i64 (mostF (colL Q N nn))) ∧ w.grownBy y none := by
  obtain ⟨n, hn⟩ : ∃ v, v = N := ⟨_, rfl⟩
  have HN : Hid (n = N) := hn
  have HL : Hid (∀ X, w.grownBy X none → RiAt X a N Q ua uc) := fun X hX => hl.kept hX
  have HCN : Hid (∀ X, w.grownBy X none → X.cell? ⟨nb, 0, none⟩ = some (.int .i64 (nn : Int))) := fun X hX => hX.cell hcn (by simp)
  have HQN := hidM hqn
  have HIN := hidM hin
  have HMF : Hid (∀ m, IsMost (colL Q N nn) m → m = mostF (colL Q N nn)) := fun m h => h.unique (mostF_is hin)
  have HRL : Hid ((colL Q N nn).length = n) := by show _ = _; unfold colL; rw [List.length_map, List.length_range, hn]
  obtain ⟨mf, hmf⟩ : ∃ v, v = mostF (colL Q N nn) := ⟨_, rfl⟩
  rw [← hmf] at HMF ⊢
  rw [← hn] at hlen ⊢
  have HM0 : Hid (MiMap (w.alloc (.map #[] 0)) w.heap.size 0 (cntF ((colL Q N nn).take 0))) := by
    have h := MiMap.made w
    have e : cntF ((colL Q N nn).take 0) = fun _ => 0 := by
      funext x
      rw [List.take_zero]
      unfold cntF
      split <;> rfl
    show MiMap _ _ _ _
    rw [e]
    exact h
  have HG0 : Hid (w.grownBy (w.alloc (.map #[] 0)) none) := World.grownBy_alloc _ _ none
  obtain ⟨mb, hmb⟩ : ∃ v, v = w.heap.size := ⟨_, rfl⟩
  have HMB : Hid (w.heap.size ≤ mb) := by show _ ≤ _; omega
  rw [← hmb] at HM0
  clear hl hin hn hmf hcn hqn
  have hmm := @run_makeMap Try.prog
  go_enter Try.func51, Try.ntmps51
  go_wp2_with fail
  rw [← hmb]
  clear hmb
  go_loopg [6, 13] n (fun gk v6 v13 wr => ∃ (k q : Nat) (m : Int), k ≤ n ∧ gk = n - k ∧ v6 = .int .i64 m ∧ v13 = .int .i64 k ∧ q ≤ k ∧ -1 ≤ m ∧ m ≤ 256 ∧ Hid (IsMost ((colL Q N nn).take k) m) ∧ MiMap wr mb q (cntF ((colL Q N nn).take k)) ∧ w.grownBy wr none)
  case atStart => exact ⟨0, 0, -1, Nat.zero_le _, rfl, rfl, rfl, Nat.le_refl _, by omega, by omega, IsMost.start, HM0.out, HG0.out⟩
  case round =>
    clear HM0 HG0
    obtain ⟨k, q, m, hk, hgk, rfl, rfl, hqk, hm1, hm2, HIS, hmp, hg⟩ := hrel
    have HGK : Hid (gk = n - k) := hgk
    have HG := hidM hg
    have HMP := hidM hmp
    clear hgk
    by_cases hkn : k < n
    · have hkd : decide (k < n) = true := decide_eq_true hkn
      have hk0 : (0 : Int) ≤ (k : Int) := by omega
      have hk1 : (k : Int) < (n : Int) := by omega
      have hkN : k < N := by rw [← HN.out]; exact hkn
      obtain ⟨lb, lo, rfl, t0⟩ : ∃ b o, a = some ⟨b, o, none⟩ ∧ wr.cell? ⟨b, o + k, none⟩ = some (.slice (ua k) (Q k).length (uc k)) := by
        rcases (HL.out wr hg).1 with h | ⟨b, o, e, h⟩
        · omega
        · exact ⟨b, o, e, h k hkN⟩
      have hsn : (colL Q N nn).take (k + 1) = (colL Q N nn).take k ++ [(Q k).getD nn 0] := colL_snoc hkN
      have hti : (Q k).getD nn 0 = -1 ∨ (0 ≤ (Q k).getD nn 0 ∧ (Q k).getD nn 0 ≤ 256) := by
        refine HIN.out _ ?_
        unfold colL
        rw [List.mem_map]
        exact ⟨k, List.mem_range.2 hkN, rfl⟩
      have HC := hidM (colF_any (ua k) (uc k) nb nn (Q k) wr ((HL.out wr hg).2 k hkN) (HCN.out wr hg) (HQN.out k hkN))
      obtain ⟨t, ht⟩ : ∃ t, t = (Q k).getD nn 0 := ⟨_, rfl⟩
      rw [← ht] at HC hsn hti
      obtain ⟨ln, hln⟩ : ∃ v, v = (Q k).length := ⟨_, rfl⟩
      rw [← hln] at HC t0
      have HSN := hidM hsn
      clear ht hsn hg hmp hln
      go_wp2_with fail
      refine Calls.mono HC.out ?_
      rintro e y ⟨rfl, hy⟩
      have hgy : wr.grownBy y none := hy
      have HGY : Hid (w.grownBy y none) := grown_trans HG.out hgy
      have hmy : MiMap y mb q (cntF ((colL Q N nn).take k)) := HMP.out.kept hgy (by simp)
      have HMY := hidM hmy
      clear hy hgy HC t0
      by_cases htn : t = -1
      · subst htn
        have HIS2 : Hid (IsMost ((colL Q N nn).take (k + 1)) m) := by
          show IsMost _ _
          rw [HSN.out]; exact HIS.out.skip
        have HM2 : Hid (MiMap y mb q (cntF ((colL Q N nn).take (k + 1)))) := by
          show MiMap _ _ _ _
          rw [HSN.out, cntF_none]; exact hmy
        have e1 : ((-1 : Int) == -1) = true := rfl
        clear hmy
        go_wp2_with fail
        go_roundg (n - (k + 1))
        case measure => have := HGK.out; omega
        case rel => exact ⟨k + 1, q, m, by omega, rfl, rfl, by go_num, by omega, hm1, hm2, HIS2.out, HM2.out, HGY.out⟩
      · have e1 : (t == -1) = false := beq_eq_false_iff_ne.2 htn
        have htr : 0 ≤ t ∧ t ≤ 256 := by
          rcases hti with h | h
          · exact absurd h htn
          · exact h
        have l1 := hmy.look (x := t) (wfI_of ⟨by omega, htr.2⟩)
        obtain ⟨w2, u1, hm3, hg3⟩ := hmy.update (by unfold maxLen; omega) (x := t) (wfI_of ⟨by omega, htr.2⟩) (cntF ((colL Q N nn).take k) t + 1)
        have hb1 := cntF_nn ((colL Q N nn).take k) t
        have hb2 := cntF_le ((colL Q N nn).take k) t
        have hb3 : ((colL Q N nn).take k).length ≤ n := by rw [List.length_take]; omega
        have hwr : IntKind.i64.wrap (cntF ((colL Q N nn).take k) t + 1) = cntF ((colL Q N nn).take k) t + 1 := by rw [IntKind.wrap_i64]; omega
        have hF : (fun z => if z = t then cntF ((colL Q N nn).take k) t + 1 else cntF ((colL Q N nn).take k) z) = cntF ((colL Q N nn).take (k + 1)) := by
          funext z
          rw [HSN.out]
          by_cases e : z = t
          · subst e
            rw [if_pos rfl, cntF_snoc_eq htn]
          · rw [if_neg e, cntF_snoc_ne e]
        rw [hF] at hm3
        have l2 := hm3.look (x := t) (wfI_of ⟨by omega, htr.2⟩)
        have l3 := hm3.look (x := m) (wfI_of ⟨hm1, hm2⟩)
        obtain ⟨f0, hf0⟩ : ∃ v, v = cntF ((colL Q N nn).take k) t := ⟨_, rfl⟩
        rw [← hf0] at l1 u1 hwr
        have HTK := hidM (fun hc => by have h := HIS.out.take (t := t) htn hc; rw [← HSN.out] at h; exact h)
        have HKP := hidM (fun hc => by have h := HIS.out.keep (t := t) htn hc; rw [← HSN.out] at h; exact h)
        rw [← HSN.out] at HTK HKP
        obtain ⟨f1, hf1⟩ : ∃ v, v = cntF ((colL Q N nn).take (k + 1)) t := ⟨_, rfl⟩
        obtain ⟨f2, hf2⟩ : ∃ v, v = cntF ((colL Q N nn).take (k + 1)) m := ⟨_, rfl⟩
        rw [← hf1] at l2 HTK HKP
        rw [← hf2] at l3 HTK HKP
        have HM3 := hidM hm3
        have HG3 : Hid (w.grownBy w2 none) := grown_new HGY.out hg3 HMB.out
        clear hm3 hg3 hmy hf0 hf1 hf2 hb1 hb2 hb3 hF hti
        by_cases g1 : f2 < f1
        · have gd1 : decide (f2 < f1) = true := decide_eq_true g1
          have HIS2 : Hid (IsMost ((colL Q N nn).take (k + 1)) t) := HTK.out (.inl g1)
          clear g1
          go_wp2_with fail
          go_roundg (n - (k + 1))
          case measure => have := HGK.out; omega
          case rel => exact ⟨k + 1, q + 1, t, by omega, rfl, rfl, by go_num, by omega, by omega, htr.2, HIS2.out, HM3.out, HG3.out⟩
        · have gd1 : decide (f2 < f1) = false := decide_eq_false g1
          by_cases g2 : f1 = f2
          · have gd2 : (f1 == f2) = true := by simpa using g2
            by_cases g3 : t < m
            · have gd3 : decide (t < m) = true := decide_eq_true g3
              have HIS2 : Hid (IsMost ((colL Q N nn).take (k + 1)) t) := HTK.out (.inr ⟨g2, g3⟩)
              clear g1 g2 g3
              go_wp2_with fail
              go_roundg (n - (k + 1))
              case measure => have := HGK.out; omega
              case rel => exact ⟨k + 1, q + 1, t, by omega, rfl, rfl, by go_num, by omega, by omega, htr.2, HIS2.out, HM3.out, HG3.out⟩
            · have gd3 : decide (t < m) = false := decide_eq_false g3
              have HIS2 : Hid (IsMost ((colL Q N nn).take (k + 1)) m) := HKP.out (by omega)
              clear g1 g2 g3
              go_wp2_with fail
              go_roundg (n - (k + 1))
              case measure => have := HGK.out; omega
              case rel => exact ⟨k + 1, q + 1, m, by omega, rfl, rfl, by go_num, by omega, hm1, hm2, HIS2.out, HM3.out, HG3.out⟩
          · have gd2 : (f1 == f2) = false := beq_eq_false_iff_ne.2 g2
            have HIS2 : Hid (IsMost ((colL Q N nn).take (k + 1)) m) := HKP.out (by omega)
            clear g1 g2
            go_wp2_with fail
            go_roundg (n - (k + 1))
            case measure => have := HGK.out; omega
            case rel => exact ⟨k + 1, q + 1, m, by omega, rfl, rfl, by go_num, by omega, hm1, hm2, HIS2.out, HM3.out, HG3.out⟩
    · have hkd : decide (k < n) = false := decide_eq_false hkn
      have HF : Hid (m = mf) := HMF.out m (by
        have h := HIS.out
        rw [List.take_of_length_le (by rw [HRL.out]; omega)] at h
        exact h)
      clear hg hmp
      go_wp2_with fail
      go_ret
      exact ⟨congrArg (fun v => Ending.returned (Value.int .i64 v)) HF.out, HG.out⟩

end Go.Proofs.Ytgmljpkenipgjaa.J

/-
  pack: the law's stays: rows, and what stands behind them, are as they were.
-/
namespace Go.Proofs.Ytgmljpkenipgjaa.J
open Go.RowKit Go.Maps Go.Shelf Pk

attribute [local go_sem] Oper.semAt_some

end Go.Proofs.Ytgmljpkenipgjaa.J

/-
  pack: the program's isHalf of actions, and what an action may be.
-/
namespace Go.Proofs.Ytgmljpkenipgjaa.J
open Go.RowKit Go.Maps Go.Shelf Pk

attribute [local go_sem] Oper.semAt_some

set_option maxRecDepth 100000 in
theorem isAction_any (kind tv : Int) (sb n : Nat) (X : World) (hc : X.cell? ⟨sb, 0, none⟩ = some (.int .i64 (n : Int))) (r : Bool) (hr : r = true ↔ StandOk kind tv n) :
    Calls Try.prog 44 #[.agg #[.int .i64 kind, .int .i64 tv], .pointer (some ⟨sb, 0, none⟩)] X fun e y => e = .returned (.bool r) ∧ X.grownBy y none := by
  have HM : Hid (∀ W, Calls Try.prog 45 #[.agg #[.int .i64 kind, .int .i64 tv], .int .i64 (n : Int)] W fun e y => e = .returned (.bool r) ∧ W.grownBy y none) := fun W => mayStand_any kind tv n W r hr
  have c1 : ∀ o, (X.alloc o).cell? ⟨sb, 0, none⟩ = some (.int .i64 (n : Int)) := fun o => (World.grownBy_alloc X o none).cell hc (by simp)
  have HG : Hid (∀ o, X.grownBy (X.alloc o) none) := fun o => World.grownBy_alloc _ _ none
  clear hr hc
  go_enter Try.func44, Try.ntmps44
  go_wp2_with fail
  refine Calls.mono (HM.out _) ?_
  rintro e y ⟨rfl, hy⟩
  have HY : Hid (X.grownBy y none) := grown_trans (HG.out _) hy
  clear hy
  go_wp2_with fail
  go_ret
  exact ⟨rfl, HY.out⟩

set_option maxRecDepth 100000 in
set_option maxHeartbeats 4000000 in
theorem isHalfA_any (sb ns : Nat) (a : Option Addr) (N c : Nat) (Q : Nat → List It) (ua : Nat → Option Addr) (uc : Nat → Nat) (w : World) (hs : w.cell? ⟨sb, 0, none⟩ = some (.int .i64 (ns : Int))) (hR : RsAt w a N Q ua uc) (hN : N ≤ 17592186044416) (hl : ∀ i, i < N → (Q i).length ≤ 17592186044416) (r : Bool) (hr : r = true ↔ HalfOk N (fun i => (Q i).length) ∧ ∀ i, i < N → ∀ x ∈ Q i, StandOk x.1 x.2 ns) :
    Calls Try.prog 46 #[.func (.func 44) #[] #[.pointer (some ⟨sb, 0, none⟩)], .slice a N c] w fun e y => e = .returned (.bool r) ∧ w.grownBy y none := by
  have HT : Hid ((HalfOk N (fun i => (Q i).length) ∧ ∀ i, i < N → ∀ x ∈ Q i, StandOk x.1 x.2 ns) → true = r) := fun h => (hr.2 h).symm
  have HN : Hid (¬ (HalfOk N (fun i => (Q i).length) ∧ ∀ i, i < N → ∀ x ∈ Q i, StandOk x.1 x.2 ns) → false = r) := fun h => by
    cases hrr : r with
    | false => rfl
    | true => exact absurd (hr.1 hrr) h
  have HR : Hid (∀ X, w.grownBy X none → RsAt X a N Q ua uc) := fun X hX => hR.kept hX
  have HS : Hid (∀ X, w.grownBy X none → X.cell? ⟨sb, 0, none⟩ = some (.int .i64 (ns : Int))) := fun X hX => hX.cell hs (by simp)
  have HL := hidH hl
  clear hr hR hs hl
  by_cases h0 : N = 0
  · subst h0
    have HF : Hid (false = r) := HN.out (fun h => by have := h.1.1; omega)
    go_enter Try.func46, Try.ntmps46
    go_wp2_with fail
    go_ret
    exact ⟨congrArg (fun v => Ending.returned (Value.bool v)) HF.out, grown_refl _ _⟩
  · obtain ⟨ra, ro, rfl, hc⟩ : ∃ ra ro, a = some ⟨ra, ro, none⟩ ∧ ∀ i, i < N → w.cell? ⟨ra, ro + i, none⟩ = some (.slice (ua i) (Q i).length (uc i)) := by
      rcases (HR.out w (grown_refl _ _)).1 with h | h
      · exact absurd h h0
      · exact h
    have c0 := hc 0 (by omega)
    rw [Nat.add_zero] at c0
    have HC : Hid (∀ X, w.grownBy X none → ∀ i, i < N → X.cell? ⟨ra, ro + i, none⟩ = some (.slice (ua i) (Q i).length (uc i))) := fun X hX i hi => hX.cell (hc i hi) (by simp)
    obtain ⟨n0, hn0⟩ : ∃ v, v = (Q 0).length := ⟨_, rfl⟩
    have HN0 : Hid (n0 = (Q 0).length) := hn0
    obtain ⟨u0, hu0⟩ : ∃ v, v = ua 0 := ⟨_, rfl⟩
    obtain ⟨d0, hd0⟩ : ∃ v, v = uc 0 := ⟨_, rfl⟩
    rw [← hn0, ← hu0, ← hd0] at c0
    have HC0 : Hid (∀ X, w.grownBy X none → X.cell? ⟨ra, ro, none⟩ = some (.slice u0 n0 d0)) := fun X hX => hX.cell c0 (by simp)
    have hNi : (0 : Int) < (N : Int) := by omega
    have hNe : ((N : Int) == 0) = false := beq_eq_false_iff_ne.2 (by omega)
    have hNe' : (N == 0) = false := beq_eq_false_iff_ne.2 h0
    clear hn0 hu0 hd0 hc
    by_cases h1 : n0 = 0
    · have HF : Hid (false = r) := HN.out (fun h => by have h2 := h.1.2.1; have h3 := HN0.out; simp only [] at h2; omega)
      subst h1
      go_enter Try.func46, Try.ntmps46
      go_wp2_with fail
      go_ret
      exact ⟨congrArg (fun v => Ending.returned (Value.bool v)) HF.out, grown_refl _ _⟩
    · have e1 : ((n0 : Int) == 0) = false := beq_eq_false_iff_ne.2 (by omega)
      have e1' : (n0 == 0) = false := beq_eq_false_iff_ne.2 h1
      by_cases h2 : 65 < n0
      · have HF : Hid (false = r) := HN.out (fun h => by have h2 := h.1.2.2.1; have h3 := HN0.out; simp only [] at h2; omega)
        have d2 : decide (65 < n0) = true := decide_eq_true h2
        have d2' : decide ((65 : Int) < (n0 : Int)) = true := decide_eq_true (by omega)
        clear h1 h2
        go_enter Try.func46, Try.ntmps46
        go_wp2_with fail
        go_ret
        exact ⟨congrArg (fun v => Ending.returned (Value.bool v)) HF.out, grown_refl _ _⟩
      · have d2 : decide (65 < n0) = false := decide_eq_false h2
        have d2' : decide ((65 : Int) < (n0 : Int)) = false := decide_eq_false (by omega)
        have HB : Hid (0 < n0 ∧ n0 ≤ 65) := ⟨by omega, by omega⟩
        clear h1 h2
        go_enter Try.func46, Try.ntmps46
        go_wp2_with fail
        clear c0
        go_loopg [28] N (fun gk v wr => ∃ k : Nat, k ≤ N ∧ gk = N - k ∧ v = .int .i64 k ∧ Hid (∀ i, i < k → (Q i).length = n0 ∧ ∀ x ∈ Q i, StandOk x.1 x.2 ns) ∧ w.grownBy wr none)
        case atStart => exact ⟨0, Nat.zero_le _, rfl, rfl, fun i hi => absurd hi (Nat.not_lt_zero _), grown_refl _ _⟩
        case round =>
          obtain ⟨k, hk, hgk, rfl, HD, hg⟩ := hrel
          have HGK : Hid (gk = N - k) := hgk
          have HG := hidH hg
          have c0 := HC0.out wr hg
          clear hgk
          by_cases hkn : k < N
          · have hkd : decide (k < N) = true := decide_eq_true hkn
            have hk0 : (0 : Int) ≤ (k : Int) := by omega
            have hk1 : (k : Int) < (N : Int) := by omega
            have ck := HC.out wr hg k hkn
            obtain ⟨n1, hn1⟩ : ∃ v, v = (Q k).length := ⟨_, rfl⟩
            have HN1 : Hid (n1 = (Q k).length) := hn1
            have hnb : n1 ≤ 17592186044416 := by rw [hn1]; exact HL.out k hkn
            obtain ⟨uk, huk⟩ : ∃ v, v = ua k := ⟨_, rfl⟩
            have HIT : Hid (∀ X, w.grownBy X none → ItsAt X uk (Q k)) := by rw [huk]; exact fun X hX => (HR.out X hX).2 k hkn
            rw [← hn1, ← huk] at ck
            clear hn1 huk
            by_cases hne : n1 = n0
            · have f1 : (n0 != n0) = false := bne_self_eq_false _
              have f1' : ((n0 : Int) != (n0 : Int)) = false := bne_self_eq_false _
              subst hne
              clear hg
              go_wp2_with fail
              clear c0 ck
              go_loopg [41] n1 (fun gk v wr => ∃ j : Nat, j ≤ n1 ∧ gk = n1 - j ∧ v = .int .i64 j ∧ Hid (∀ x ∈ (Q k).take j, StandOk x.1 x.2 ns) ∧ w.grownBy wr none)
              case atStart => exact ⟨0, Nat.zero_le _, rfl, rfl, fun x hx => by simp at hx, HG.out⟩
              case round =>
                clear HG
                obtain ⟨j, hj, hgj, rfl, HX, hg⟩ := hrel
                have HGJ : Hid (gk = n1 - j) := hgj
                have HG := hidH hg
                clear hgj
                by_cases hjn : j < n1
                · have hjd : decide (j < n1) = true := decide_eq_true hjn
                  have hj0 : (0 : Int) ≤ (j : Int) := by omega
                  have hj1 : (j : Int) < (n1 : Int) := by omega
                  have hjl : j < (Q k).length := by rw [← HN1.out]; exact hjn
                  have cs := HS.out wr hg
                  have HMM : Hid ((Q k).getD j (0, 0) ∈ Q k) := by rw [List.getD_eq_getElem?_getD, List.getElem?_eq_getElem hjl]; exact List.getElem_mem _
                  have HTK : Hid (∀ x ∈ (Q k).take (j + 1), x ∈ (Q k).take j ∨ x = (Q k).getD j (0, 0)) := fun x hx => by
                    rw [List.take_add_one, List.getElem?_eq_getElem hjl, Option.toList_some, List.mem_append] at hx
                    rcases hx with hx | hx
                    · exact .inl hx
                    · refine .inr ?_
                      rw [List.getD_eq_getElem?_getD, List.getElem?_eq_getElem hjl]
                      simpa using hx
                  obtain ⟨lb, lo, rfl, t0, t1⟩ : ∃ b o, uk = some ⟨b, o, none⟩ ∧ wr.cell? ⟨b, o + j * 2, none⟩ = some (.int .i64 ((Q k).getD j (0, 0)).1) ∧ wr.cell? ⟨b, o + j * 2 + 1, none⟩ = some (.int .i64 ((Q k).getD j (0, 0)).2) := by
                    rcases HIT.out wr hg with h | ⟨b, o, e, h⟩
                    · rw [h] at hjl; cases hjl
                    · exact ⟨b, o, e, (h j hjl).1, (h j hjl).2⟩
                  obtain ⟨z, hz⟩ : ∃ v, v = (Q k).getD j (0, 0) := ⟨_, rfl⟩
                  rw [← hz] at t0 t1 HMM HTK
                  obtain ⟨r1, hr1⟩ : ∃ r : Bool, r = true ↔ StandOk z.1 z.2 ns := by
                    by_cases h : StandOk z.1 z.2 ns
                    · exact ⟨true, by simp [h]⟩
                    · exact ⟨false, by simp [h]⟩
                  have HR1 := hidH hr1
                  have HCC := hidH (fun o => isAction_any z.1 z.2 sb ns (wr.alloc o) ((World.grownBy_alloc wr o none).cell cs (by simp)) r1 hr1)
                  clear hz hr1 cs hg
                  go_wp2_with fail
                  refine Calls.mono (HCC.out _) ?_
                  rintro e y ⟨rfl, hy⟩
                  have HY : Hid (w.grownBy y none) := grown_trans (grown_trans HG.out (World.grownBy_alloc _ _ none)) hy
                  clear hy HCC
                  cases r1 with
                  | false =>
                    have HF : Hid (false = r) := HN.out (fun h => absurd (HR1.out.2 (h.2 k hkn z HMM.out)) (by decide))
                    go_wp2_with fail
                    go_ret
                    exact ⟨congrArg (fun v => Ending.returned (Value.bool v)) HF.out, HY.out⟩
                  | true =>
                    have HZ : Hid (StandOk z.1 z.2 ns) := HR1.out.1 rfl
                    go_wp2_with fail
                    go_roundg (n1 - (j + 1))
                    case measure => have := HGJ.out; omega
                    case rel => exact ⟨j + 1, by omega, rfl, by go_num, fun x hx => by
                      rcases HTK.out x hx with h | h
                      · exact HX.out x h
                      · rw [h]; exact HZ.out, HY.out⟩
                · have hjd : decide (j < n1) = false := decide_eq_false hjn
                  have HDK : Hid (∀ i, i < k + 1 → (Q i).length = n1 ∧ ∀ x ∈ Q i, StandOk x.1 x.2 ns) := fun i hi => by
                    by_cases e : i = k
                    · subst e
                      have h1 := HX.out
                      rw [List.take_of_length_le (by have := HN1.out; omega)] at h1
                      exact ⟨HN1.out.symm, h1⟩
                    · exact HD.out i (by omega)
                  clear hg
                  go_wp2_with fail
                  go_roundg (N - (k + 1))
                  case measure => have := HGK.out; omega
                  case rel => exact ⟨k + 1, by omega, rfl, by go_num, HDK.out, HG.out⟩
            · have f1 : (n1 != n0) = true := by rw [bne_iff_ne]; exact hne
              have f1' : ((n1 : Int) != (n0 : Int)) = true := by rw [bne_iff_ne]; omega
              have HF : Hid (false = r) := HN.out (fun h => by
                have h1 := h.1.2.2.2 k hkn
                have h2 := HN0.out
                have h3 := HN1.out
                simp only [] at h1
                omega)
              clear hg hne
              go_wp2_with fail
              go_ret
              exact ⟨congrArg (fun v => Ending.returned (Value.bool v)) HF.out, HG.out⟩
          · have hkd : decide (k < N) = false := decide_eq_false hkn
            have HF : Hid (true = r) := HT.out ⟨⟨by omega, by have := HB.out; have := HN0.out; show 0 < (Q 0).length; omega, by have := HB.out; have := HN0.out; show (Q 0).length ≤ 65; omega, fun i hi => by
              have h1 := (HD.out i (by omega)).1
              have h2 := HN0.out
              show (Q i).length = (Q 0).length
              omega⟩, fun i hi => (HD.out i (by omega)).2⟩
            clear hg
            go_wp2_with fail
            go_ret
            exact ⟨congrArg (fun v => Ending.returned (Value.bool v)) HF.out, HG.out⟩

end Go.Proofs.Ytgmljpkenipgjaa.J

/-
  pack: the program's mayBePacked.
-/
namespace Go.Proofs.Ytgmljpkenipgjaa.J
open Go.RowKit Go.Maps Go.Shelf Pk

attribute [local go_sem] Oper.semAt_some

/-- May a table be packed? -/
def MayT (N M : Nat) (R : Nat → List It) (Q : Nat → List Int) : Prop := N ≤ 256 ∧ M = N ∧ (HalfOk N (fun i => (R i).length) ∧ ∀ i, i < N → ∀ x ∈ R i, StandOk x.1 x.2 N) ∧ (HalfOk N (fun i => (Q i).length) ∧ ∀ i, i < N → ∀ x ∈ Q i, GotoOk x N)

set_option maxRecDepth 100000 in
set_option maxHeartbeats 4000000 in
theorem mayBe_any (a g : Option Addr) (N M c d : Nat) (R : Nat → List It) (Q : Nat → List Int) (la lg : Nat → Option Addr) (lc ld : Nat → Nat) (w : World) (hR : RsAt w a N R la lc) (hQ : RiAt w g M Q lg ld) (hN : N ≤ 17592186044416) (hM : M ≤ 17592186044416) (hl : ∀ i, i < N → (R i).length ≤ 17592186044416) (hl2 : ∀ i, i < M → (Q i).length ≤ 17592186044416) (r : Bool) (hr : r = true ↔ MayT N M R Q) :
    Calls Try.prog 34 #[.agg #[.slice a N c, .slice g M d]] w fun e y => e = .returned (.bool r) ∧ w.grownBy y none := by
  have HT : Hid (MayT N M R Q → true = r) := fun h => (hr.2 h).symm
  have HN : Hid (¬ MayT N M R Q → false = r) := fun h => by
    cases hrr : r with
    | false => rfl
    | true => exact absurd (hr.1 hrr) h
  clear hr
  obtain ⟨X, hX⟩ : ∃ X, X = (w.alloc (.cells #[.slice a N c, .slice g M d] 42)).alloc (.cells #[.int .i64 (N : Int)] 3) := ⟨_, rfl⟩
  obtain ⟨sb, hsb⟩ : ∃ v, v = w.heap.size + 1 := ⟨_, rfl⟩
  have hgx : w.grownBy X none := by rw [hX]; exact grown_trans (World.grownBy_alloc _ _ none) (World.grownBy_alloc _ _ none)
  have HGX := hidH hgx
  have hb : X.heap[sb]? = some (.cells #[.int .i64 (N : Int)] 3 (0, 0)) := by
    have h := heap_alloc_last (w.alloc (.cells #[.slice a N c, .slice g M d] 42)) (.cells #[.int .i64 (N : Int)] 3)
    have e : (w.alloc (.cells #[.slice a N c, .slice g M d] 42)).heap.size = sb := by rw [hsb]; simp
    rw [hX, ← e]
    exact h
  have HS : Hid (∀ Y, X.grownBy Y none → Y.cell? ⟨sb, 0, none⟩ = some (.int .i64 (N : Int))) := fun Y hY => hY.cell (by rw [cell_of_row _ _ _ _ _ _ hb]; rfl) (by simp)
  have HB : Hid (∀ Y, X.grownBy Y none → Y.cell? ⟨w.heap.size, 0, none⟩ = some (.slice a N c) ∧ Y.cell? ⟨w.heap.size, 1, none⟩ = some (.slice g M d)) := fun Y hY => by
    have h0 : Y.heap[w.heap.size]? = some (.cells #[.slice a N c, .slice g M d] 42 (0, 0)) := box_kept (by rw [hX]; exact box_kept (heap_alloc_last w _) (World.grownBy_alloc _ _ none)) hY
    exact ⟨by rw [cell_of_row _ _ _ _ _ _ h0]; rfl, by rw [cell_of_row _ _ _ _ _ _ h0]; rfl⟩
  obtain ⟨q0, q1⟩ := HB.out X (grown_refl _ _)
  have s0 := HS.out X (grown_refl _ _)
  rw [hX] at q0 q1 s0
  rw [hsb] at s0
  by_cases h1 : 256 < N
  · have d1 : decide ((256 : Int) < (N : Int)) = true := decide_eq_true (by omega)
    have d1' : decide (256 < N) = true := decide_eq_true h1
    have HF : Hid (false = r) := HN.out (fun h => by have := h.1; omega)
    clear hR hQ hl hl2 h1 hb hgx hX hsb
    go_enter Try.func34, Try.ntmps34
    go_wp2_with fail
    go_ret
    exact ⟨congrArg (fun v => Ending.returned (Value.bool v)) HF.out, grown_trans (World.grownBy_alloc _ _ none) (World.grownBy_alloc _ _ none)⟩
  · have d1 : decide ((256 : Int) < (N : Int)) = false := decide_eq_false (by omega)
    have d1' : decide (256 < N) = false := decide_eq_false h1
    by_cases h2 : M = N
    · subst h2
      have e1 : ((M : Int) != (M : Int)) = false := bne_self_eq_false _
      have e1' : (M != M) = false := bne_self_eq_false _
      obtain ⟨r1, hr1⟩ : ∃ r : Bool, r = true ↔ HalfOk M (fun i => (R i).length) ∧ ∀ i, i < M → ∀ x ∈ R i, StandOk x.1 x.2 M := by
        by_cases h : HalfOk M (fun i => (R i).length) ∧ ∀ i, i < M → ∀ x ∈ R i, StandOk x.1 x.2 M
        · exact ⟨true, by simp only [true_iff]; exact h⟩
        · exact ⟨false, by simp only [Bool.false_eq_true, false_iff]; exact h⟩
      obtain ⟨r2, hr2⟩ : ∃ r : Bool, r = true ↔ HalfOk M (fun i => (Q i).length) ∧ ∀ i, i < M → ∀ x ∈ Q i, GotoOk x M := by
        by_cases h : HalfOk M (fun i => (Q i).length) ∧ ∀ i, i < M → ∀ x ∈ Q i, GotoOk x M
        · exact ⟨true, by simp only [true_iff]; exact h⟩
        · exact ⟨false, by simp only [Bool.false_eq_true, false_iff]; exact h⟩
      have HR1 := hidH hr1
      have HR2 := hidH hr2
      have HC1 := hidH (isHalfA_any sb M a M c R la lc X (HS.out X (grown_refl _ _)) (hR.kept hgx) hN hl r1 hr1)
      have HC2 := hidH (fun Y (hY : X.grownBy Y none) => isHalfI_any sb M g M d Q lg ld Y (HS.out Y hY) (hQ.kept (grown_trans hgx hY)) hN hl2 r2 hr2)
      clear hR hQ hl hl2 hb hgx hr1 hr2
      go_enter Try.func34, Try.ntmps34
      go_wp2_with fail
      rw [← hX, ← hsb]
      clear hX hsb q0 q1 s0
      refine Calls.mono HC1.out ?_
      rintro e y ⟨rfl, hy⟩
      have HY := hidH hy
      obtain ⟨q0, q1⟩ := HB.out y hy
      have HC3 := hidH (HC2.out y hy)
      clear hy HC1 HC2
      cases r1 with
      | false =>
        have HF : Hid (false = r) := HN.out (fun h => absurd (HR1.out.2 h.2.2.1) (by decide))
        go_wp2_with fail
        go_ret
        exact ⟨congrArg (fun v => Ending.returned (Value.bool v)) HF.out, grown_trans HGX.out HY.out⟩
      | true =>
        go_wp2_with fail
        refine Calls.mono HC3.out ?_
        rintro e z ⟨rfl, hz⟩
        have HZ : Hid (w.grownBy z none) := grown_trans (grown_trans HGX.out HY.out) hz
        have HF : Hid (r2 = r) := by
          cases r2 with
          | false => exact HN.out (fun h => absurd (HR2.out.2 h.2.2.2) (by decide))
          | true => exact HT.out ⟨by omega, rfl, HR1.out.1 (by first | rfl | trivial), HR2.out.1 (by first | rfl | trivial)⟩
        clear hz HC3
        go_wp2_with fail
        go_ret
        exact ⟨congrArg (fun v => Ending.returned (Value.bool v)) HF.out, HZ.out⟩
    · have e1 : ((M : Int) != (N : Int)) = true := by rw [bne_iff_ne]; omega
      have e1' : (M != N) = true := by rw [bne_iff_ne]; exact h2
      have HF : Hid (false = r) := HN.out (fun h => h2 h.2.1)
      clear hR hQ hl hl2 h1 h2 hb hgx hX hsb
      go_enter Try.func34, Try.ntmps34
      go_wp2_with fail
      go_ret
      exact ⟨congrArg (fun v => Ending.returned (Value.bool v)) HF.out, grown_trans (World.grownBy_alloc _ _ none) (World.grownBy_alloc _ _ none)⟩

end Go.Proofs.Ytgmljpkenipgjaa.J
