/-
  reach: the document's Used.
-/
import Derived.Test.YtljlkmiaemkokaaQodlcpcmhmoid
import Derived.Test.YtljlkmiaemkokaaQinfmidchdjdc
namespace Go.Proofs.Ytljlkmiaemkokaa
open Go.RowKit Go.Maps Go.Shelf

attribute [local go_sem] Oper.semAt_some

/-- While what is used is marked: the grammar's box, what is productive, the row. -/
structure UdAt (w wr : World) (cs : Array Value) (k1 k2 nn : Nat) (may f : Nat → Bool) : Prop where
  ph : PhAt w wr w.heap.size cs
  may : BoolAt wr k1 nn may
  row : BoolAt wr k2 nn f
  lo : w.heap.size + 1 ≤ k2
  ne : k1 ≠ k2
section
variable {w wr wx : World} {cs : Array Value} {k1 k2 nn : Nat} {may f : Nat → Bool}
theorem UdAt.kept (h : UdAt w wr cs k1 k2 nn may f) (hg : wr.grownBy wx none) : UdAt w wx cs k1 k2 nn may f := ⟨h.ph.kept hg, h.may.kept hg, h.row.kept hg, h.lo, h.ne⟩
theorem UdAt.set (h : UdAt w wr cs k1 k2 nn may f) (x : Nat) (b : Bool) : UdAt w (wr.setCell ⟨k2, x, none⟩ (.bool b)) cs k1 k2 nn may (mark f x b) := ⟨h.ph.keptRow (grown_setCell _ _ _) h.lo, h.may.at (grown_setCell _ _ _) h.ne, h.row.set x b, h.lo, h.ne⟩
end

/-- The answer of Used. -/
def UsedTold (tn nn n : Nat) (st : Int) (L : Nat → Int) (R : Nat → List Int) (cl : Bool) (w : World) (e : Ending) (y : World) : Prop :=
  ∃ (k : Nat) (may F : Nat → Bool), e = .returned (.slice (some ⟨k, 0, none⟩) nn nn) ∧ w.heap.size ≤ k ∧ BoolAt y k nn F ∧ Fix (stM tn L R) (chM tn L R) n (fun _ => false) may ∧ Fix (stD tn L R may) (chD tn L R may) n (startD (st - tn).toNat cl (may (st - tn).toNat)) F ∧ w.grownBy y none

set_option maxRecDepth 100000 in
set_option maxHeartbeats 2000000 in
theorem rused_false (ta na la pa : Option Addr) (tc nc lc pc : Nat) (ts : List (ByteArray × Int)) (ns : List ByteArray) (lv : List Int) (n : Nat) (L : Nat → Int) (R : Nat → List Int) (ra : Nat → Option Addr) (rc : Nat → Nat) (V : Nat → Int) (st : Int) (w : World) (tn nn ln : Nat) (hlen : ts.length = tn ∧ ns.length = nn ∧ lv.length = ln) (hG : GAt w ta na la pa tc nc lc pc ts ns lv n L R ra rc V) (hM : MayOK tn nn n st L R false) (hcl : false = true ↔ ns.getD 0 ⟨#[]⟩ = ⟨#[]⟩) :
    Calls Try.prog 24 #[.agg #[.slice ta tn tc, .slice na nn nc, .slice la ln lc, .int .i64 st, .slice pa n pc]] w fun e y => UsedTold tn nn n st L R false w e y := by
  have hnn : nn ≤ 65 := hM.nmax
  have htn : tn ≤ 65 := hM.tmax
  have hpn : n ≤ 97 := hM.pmax
  have HM : Hid (MayOK tn nn n st L R false) := hM
  have HP : Hid (ProdsAt w pa n L R ra rc V) := hG.prods
  have HX0 : Hid (PhAt w (w.alloc (.cells #[.slice ta tn tc, .slice na nn nc, .slice la ln lc, .int .i64 st, .slice pa n pc] 27)) w.heap.size #[.slice ta tn tc, .slice na nn nc, .slice la ln lc, .int .i64 st, .slice pa n pc]) := ⟨World.grownBy_alloc _ _ none, heap_alloc_last w _⟩
  have HMK : Hid (∀ X, w.grownBy X none → Calls Try.prog 25 #[.agg #[.slice ta tn tc, .slice na nn nc, .slice la ln lc, .int .i64 st, .slice pa n pc]] X fun e w' => ∃ k, e = .returned (.slice (some ⟨k, 0, none⟩) nn nn) ∧ X.heap.size ≤ k ∧ MadeM w' k nn tn n L R ∧ X.grownBy w' none) := fun X hX => rmarks_any ta na la pa tn nn ln n tc nc lc pc st L R ra rc V X (hG.kept hX).prods hM.pmax (by omega) hM.left (fun k hk x hx => ⟨by have := hM.right k hk x hx; omega, (hM.right k hk x hx).2⟩)
  obtain ⟨bn, on, rfl, hcs⟩ : ∃ b off, na = some ⟨b, off, none⟩ ∧ ∀ i, i < ns.length → w.cell? ⟨b, off + i, none⟩ = some (.string (ns.getD i ⟨#[]⟩)) := by
    rcases hG.nons with h | h
    · have h1 := hlen.2.1; have h2 := hM.n0; rw [h] at h1; simp at h1; omega
    · exact h
  have hnm := hcs 0 (by rw [hlen.2.1]; exact hM.n0)
  rw [Nat.add_zero] at hnm
  have HNM : Hid (w.cell? ⟨bn, on, none⟩ = some (.string (ns.getD 0 ⟨#[]⟩))) := hnm
  have HCL : Hid (false = true ↔ ns.getD 0 ⟨#[]⟩ = ⟨#[]⟩) := hcl
  obtain ⟨s, hs⟩ : ∃ s : Nat, st = ((tn + s : Nat) : Int) := ⟨(st - tn).toNat, by have := hM.start; omega⟩
  have hsn : s < nn := by have := hM.start; omega
  have hs2 : (st - (tn : Int)).toNat = s := by omega
  have HS2 : Hid ((st - (tn : Int)).toNat = s) := hs2
  have hn0 : 0 < nn := hM.n0
  clear hG hlen hcs hnm hcl hM hs2
  obtain ⟨sy, hsy⟩ : ∃ sy, sy = tn + s := ⟨_, rfl⟩
  rw [← hsy] at hs
  have hd1 : (sy : Int) - (tn : Int) = (s : Int) := by omega
  have hd3 : IntKind.i64.wrap (s : Int) = (s : Int) := by rw [IntKind.wrap_i64]; omega
  have hv0 : (0 : Int) ≤ (s : Int) := by omega
  have hv1 : (s : Int) < (nn : Int) := by omega
  subst hs
  clear hsy
  obtain ⟨i0, hi, hz0, hz1, hz2⟩ := info_parts infoBool
  go_enter Try.func24, Try.ntmps24
  go_wp2_with fail
  refine Calls.mono (HMK.out _ HX0.out.grown) ?_
  rintro e w1 ⟨k1, rfl, hk1, ⟨may, hB1, hF1⟩, hg1⟩
  have HX1 : Hid (PhAt w w1 w.heap.size #[.slice ta tn tc, .slice (some ⟨bn, on, none⟩) nn nc, .slice la ln lc, .int .i64 (sy : Int), .slice pa n pc]) := HX0.out.kept hg1
  have HB1 : Hid (BoolAt w1 k1 nn may) := hB1
  have HF1 : Hid (Fix (stM tn L R) (chM tn L R) n (fun _ => false) may) := hF1
  have hk1b : k1 < w1.heap.size := hB1.lt
  have HK1 : Hid (w.heap.size + 1 ≤ w1.heap.size) := by have := hg1.size; show _ ≤ _; simp at this; omega
  obtain ⟨m0, m1, m2, m3, m4⟩ := HX1.out.cells
  clear hk1 hB1 hF1 hg1 HX0 HMK
  go_wp2_with (at_make; refine wpList_make_full _ rfl _ _ 29 rfl (w.heap.size + 1) 4 i0 (.bool false) 1 Try.underlying29 hi hz0 hz1 .i64 .i64 _ _ nn rfl rfl (by simp) (by simp) (by rw [hz2]; omega) (by unfold maxLen; omega) HK1.out ?_)
  intro w2 hown hgrow
  obtain ⟨k2, hk2⟩ : ∃ k2, k2 = w1.heap.size := ⟨_, rfl⟩
  have hUd : UdAt w w2 #[.slice ta tn tc, .slice (some ⟨bn, on, none⟩) nn nc, .slice la ln lc, .int .i64 (sy : Int), .slice pa n pc] k1 k2 nn may (fun _ => false) := by
    refine ⟨HX1.out.kept hgrow, HB1.out.kept hgrow, ?_, by have := HK1.out; omega, by omega⟩
    rw [hk2]
    exact made_bools (w := w1) (w1 := w2) (B := w.heap.size + 1) (n := nn) (by simpa [Value.cells] using hown)
  rw [← hk2]
  have HUD : Hid (UdAt w w2 #[.slice ta tn tc, .slice (some ⟨bn, on, none⟩) nn nc, .slice la ln lc, .int .i64 (sy : Int), .slice pa n pc] k1 k2 nn may (fun _ => false)) := hUd
  have hne12 : k1 ≠ k2 := by omega
  have hne21 : k2 ≠ k1 := by omega
  have hwk : w.heap.size < k2 := by have := HK1.out; omega
  have hwk2 : w.heap.size ≠ k2 := by omega
  have hwk3 : k2 ≠ w.heap.size := by omega
  clear hown hgrow hUd hi hz0 hz1 hz2 hk2 HX1 HB1 HK1 hk1b m0 m1 m2 m3 m4
  obtain ⟨m0, m1, m2, m3, m4⟩ := HUD.out.ph.cells
  have a0 := HUD.out.may.cell s hsn
  have r0 := HUD.out.row.cell s hsn
  have rf := HUD.out.row.free s
  obtain ⟨p, hp⟩ : ∃ p, p = may s := ⟨_, rfl⟩
  have HPP : Hid (p = may s) := hp
  rw [← hp] at a0
  clear hp
  go_wp2_with fail
  go_region_held3 (fun x => x.cell? ⟨w.heap.size, 3, none⟩ = some (.int .i64 (sy : Int)) ∧ x.cell? ⟨w.heap.size, 0, none⟩ = some (.slice ta tn tc) ∧ x.cell? ⟨k1, s, none⟩ = some (.bool p)) (go_keep) (fail)
  have HU3 : Hid (UdAt w (w2.setCell ⟨k2, s, none⟩ (.bool p)).drew #[.slice ta tn tc, .slice (some ⟨bn, on, none⟩) nn nc, .slice la ln lc, .int .i64 (sy : Int), .slice pa n pc] k1 k2 nn may (mark (fun _ => false) s p)) := (HUD.out.set s p).kept (grown_drewN _ 1)
  generalize (w2.setCell ⟨k2, s, none⟩ (.bool p)).drew = X3 at *
  clear HUD a0 r0 rf m0 m1 m2 m3 m4
  obtain ⟨m0, m1, m2, m3, m4⟩ := HU3.out.ph.cells
  have nm0 := HU3.out.ph.grown.cell HNM.out (by simp)
  have a0 := HU3.out.may.cell s hsn
  rw [← HPP.out] at a0
  obtain ⟨nm, hnm⟩ : ∃ nm, nm = ns.getD 0 ⟨#[]⟩ := ⟨_, rfl⟩
  have HNE : Hid (nm = ns.getD 0 ⟨#[]⟩) := hnm
  rw [← hnm] at nm0
  clear hnm
  have hne : nm.toList.isEmpty = false := isEmpty_false (fun h => by have h1 := HCL.out.2 (by rw [← HNE.out]; exact h); cases h1)
  have HU4 : Hid (UdAt w X3 #[.slice ta tn tc, .slice (some ⟨bn, on, none⟩) nn nc, .slice la ln lc, .int .i64 (sy : Int), .slice pa n pc] k1 k2 nn may (startD s false p)) := by
    have e : mark (fun _ => false) s p = startD s false p := by
      funext i
      unfold mark startD
      by_cases e1 : i = s
      · rw [if_pos e1]; simp [e1]
      · rw [if_neg e1]; simp [e1]
    rw [← e]; exact HU3.out
  clear HU3
  go_wp2_with fail

  clear nm0 a0 m0 m1 m2 m3 m4
  go_loopg [5] (un nn (startD s false p) + 1) (fun gk a wr => ∃ (b : Bool) (t : Nat) (f : Nat → Bool), a = .bool b ∧ f = itr (stD tn L R may) n t (startD s false p) ∧ (b = false → rchg (stD tn L R may) (chD tn L R may) n f = false) ∧ gk = (if b = true then un nn f + 1 else 0) ∧ UdAt w wr #[.slice ta tn tc, .slice (some ⟨bn, on, none⟩) nn nc, .slice la ln lc, .int .i64 (sy : Int), .slice pa n pc] k1 k2 nn may f)
  case atStart => exact ⟨true, 0, startD s false p, rfl, rfl, by simp, by simp, HU4.out⟩
  case round =>
    obtain ⟨b, t, f, rfl, hf, hbf, hgk, hU⟩ := hrel
    have HF : Hid (f = itr (stD tn L R may) n t (startD s false p)) := hf
    have HBF : Hid (b = false → rchg (stD tn L R may) (chD tn L R may) n f = false) := hbf
    have HGK : Hid (gk = (if b = true then un nn f + 1 else 0)) := hgk
    have HU : Hid (UdAt w wr #[.slice ta tn tc, .slice (some ⟨bn, on, none⟩) nn nc, .slice la ln lc, .int .i64 (sy : Int), .slice pa n pc] k1 k2 nn may f) := hU
    clear hf hbf hgk hU HU4
    cases b with
    | false =>
      go_wp2_with fail
      go_ret
      exact ⟨k2, may, f, rfl, by have := HU.out.lo; omega, HU.out.row, HF1.out, by rw [HS2.out, ← HPP.out]; exact ⟨t, HF.out, HBF.out (by first | rfl | trivial)⟩, HU.out.ph.grown⟩
    | true =>
      generalize wr = W0 at *
      go_wp2_with fail
      go_loopg [5, 6] n (fun gx a i wx => ∃ k : Nat, k ≤ n ∧ gx = n - k ∧ i = .int .i64 k ∧ a = .bool (rchg (stD tn L R may) (chD tn L R may) k f) ∧ UdAt w wx #[.slice ta tn tc, .slice (some ⟨bn, on, none⟩) nn nc, .slice la ln lc, .int .i64 (sy : Int), .slice pa n pc] k1 k2 nn may (rnd (stD tn L R may) k f))
      case atStart => exact ⟨0, Nat.zero_le _, rfl, rfl, rfl, HU.out⟩
      case round =>
        obtain ⟨k, hk, hgx, rfl, rfl, hN⟩ := hrel
        have HGX : Hid (gk = n - k) := hgx
        have HN0 : Hid (UdAt w wr #[.slice ta tn tc, .slice (some ⟨bn, on, none⟩) nn nc, .slice la ln lc, .int .i64 (sy : Int), .slice pa n pc] k1 k2 nn may (rnd (stD tn L R may) k f)) := hN
        clear hgx hN HU
        obtain ⟨m0, m1, m2, m3, m4⟩ := HN0.out.ph.cells
        by_cases hlt : k < n
        · obtain ⟨bp, off, rfl, hcs⟩ : ∃ b off, pa = some ⟨b, off, none⟩ ∧ ∀ k, k < n → w.cell? ⟨b, off + k * 3, none⟩ = some (.int .i64 (L k)) ∧ w.cell? ⟨b, off + k * 3 + 1, none⟩ = some (.slice (ra k) (R k).length (rc k)) ∧ w.cell? ⟨b, off + k * 3 + 2, none⟩ = some (.int .i64 (V k)) ∧ IntsAt w (ra k) (R k) ∧ (ra k = none → rc k = 0) ∧ (R k).length ≤ 17592186044416 := by
            rcases HP.out with h | h
            · omega
            · exact h
          obtain ⟨h1, h2, h3, hI, _, hlen⟩ := hcs k hlt
          have c0 := HN0.out.ph.grown.cell h1 (by simp)
          have c1 := HN0.out.ph.grown.cell h2 (by simp)
          have c2 := HN0.out.ph.grown.cell h3 (by simp)
          obtain ⟨hl1, hl2⟩ := HM.out.left k hlt
          obtain ⟨v, hv⟩ : ∃ v : Nat, L k = ((tn + v : Nat) : Int) := ⟨(L k - tn).toNat, by omega⟩
          have hvn : v < nn := by omega
          have ev : (L k - (tn : Int)).toNat = v := by omega
          have HGD : Hid (∀ g, goD tn L R may k g = (g v && fitsB tn may (R k))) := fun g => by unfold goD; rw [ev]
          obtain ⟨y, hy⟩ : ∃ y, y = tn + v := ⟨_, rfl⟩
          rw [hv, ← hy] at c0
          have d2 : (y : Int) - (tn : Int) = (v : Int) := by omega
          have d3 : IntKind.i64.wrap (v : Int) = (v : Int) := by rw [IntKind.wrap_i64]; omega
          have hw0 : (0 : Int) ≤ (v : Int) := by omega
          have hw1 : (v : Int) < (nn : Int) := by omega
          obtain ⟨fb, hfb⟩ : ∃ fb, fb = fitsB tn may (R k) := ⟨_, rfl⟩
          have HFB : Hid (fb = fitsB tn may (R k)) := hfb
          have HFT : Hid (∀ X, w.grownBy X none → BoolAt X k1 nn may → Calls Try.prog 35 #[.agg #[.slice ta tn tc, .slice (some ⟨bn, on, none⟩) nn nc, .slice la ln lc, .int .i64 (sy : Int), .slice (some ⟨bp, off, none⟩) n pc], .slice (some ⟨k1, 0, none⟩) nn nn, .slice (ra k) (R k).length (rc k)] X fun e w' => e = .returned (.bool fb) ∧ X.grownBy w' none) := fun X hX hB => by
            rw [hfb]
            exact rfits_any ta (some ⟨bn, on, none⟩) la (some ⟨bp, off, none⟩) (ra k) tn nn ln n tc nc lc pc (rc k) k1 (sy : Int) may (R k) X hB (hI.kept hX) hlen (by omega) (fun x hx => ⟨by have := HM.out.right k hlt x hx; omega, (HM.out.right k hlt x hx).2⟩) _ (fitsB_iff tn may (R k))
          have HRS : Hid (rnd (stD tn L R may) (k + 1) f = stD tn L R may k (rnd (stD tn L R may) k f) ∧ rchg (stD tn L R may) (chD tn L R may) (k + 1) f = (rchg (stD tn L R may) (chD tn L R may) k f || chD tn L R may k (rnd (stD tn L R may) k f))) := ⟨rfl, rfl⟩
          obtain ⟨g, hg⟩ : ∃ g, g = rnd (stD tn L R may) k f := ⟨_, rfl⟩
          obtain ⟨ch, hch⟩ : ∃ ch, ch = rchg (stD tn L R may) (chD tn L R may) k f := ⟨_, rfl⟩
          rw [← hg] at HRS
          rw [← hch] at HRS ⊢
          have HNG : Hid (UdAt w wr #[.slice ta tn tc, .slice (some ⟨bn, on, none⟩) nn nc, .slice la ln lc, .int .i64 (sy : Int), .slice (some ⟨bp, off, none⟩) n pc] k1 k2 nn may g) := by rw [hg]; exact HN0.out
          have HIK : Hid (IntsAt w (ra k) (R k) ∧ ∀ x ∈ R k, (0 : Int) < x ∧ x < ((tn + nn : Nat) : Int)) := ⟨hI, HM.out.right k hlt⟩
          obtain ⟨z, hz⟩ : ∃ z, z = V k := ⟨_, rfl⟩
          rw [← hz] at c2
          obtain ⟨al, hal⟩ : ∃ al, al = ra k := ⟨_, rfl⟩
          obtain ⟨rl, hrl⟩ : ∃ rl, rl = (R k).length := ⟨_, rfl⟩
          obtain ⟨cl, hcl⟩ : ∃ cl, cl = rc k := ⟨_, rfl⟩
          have HRL : Hid (rl = (R k).length) := hrl
          have hrl1 : rl ≤ 17592186044416 := by omega
          rw [← hal, ← hrl, ← hcl] at c1 HFT
          rw [← hal] at HIK
          have hAl := World.grownBy_alloc wr (.cells #[.int .i64 (y : Int), .slice al rl cl, .int .i64 z] 45) none
          have HN1 : Hid (UdAt w (wr.alloc (.cells #[.int .i64 (y : Int), .slice al rl cl, .int .i64 z] 45)) #[.slice ta tn tc, .slice (some ⟨bn, on, none⟩) nn nc, .slice la ln lc, .int .i64 (sy : Int), .slice (some ⟨bp, off, none⟩) n pc] k1 k2 nn may g) := HNG.out.kept hAl
          have HBX : Hid ((wr.alloc (.cells #[.int .i64 (y : Int), .slice al rl cl, .int .i64 z] 45)).heap[wr.heap.size]? = some (.cells #[.int .i64 (y : Int), .slice al rl cl, .int .i64 z] 45 (0, 0))) := heap_alloc_last wr _
          clear hcs h1 h2 h3 hI hlen hl1 hl2 hv ev hg hch hfb hz hal hrl hcl hy HN0 hAl
          obtain ⟨n0, n1, n2, n3, n4⟩ := HN1.out.ph.cells
          obtain ⟨⟨p0, p1, p2⟩, _⟩ := box3 HBX.out
          have b1 := HN1.out.row.cell v hvn
          cases hgv : g v with
          | false =>
            rw [hgv] at b1
            have HE : Hid (chD tn L R may k g = false) := by show _ = _; unfold chD; rw [HGD.out, hgv]; rfl
            clear hgv
            go_wp2_with fail
            go_roundg (n - (k + 1))
            case measure => have := HGX.out; omega
            case rel => exact ⟨k + 1, by omega, rfl, by go_num, by rw [HRS.out.2, HE.out, Bool.or_false], by rw [HRS.out.1, stD_same _ _ HE.out]; exact HN1.out⟩
          | true =>
            rw [hgv] at b1
            have HGV : Hid (g v = true) := hgv
            clear hgv
            go_wp2_with fail
            refine Calls.mono (HFT.out _ HN1.out.ph.grown HN1.out.may) ?_
            rintro e w5 ⟨rfl, hg5⟩
            have HN2 : Hid (UdAt w w5 #[.slice ta tn tc, .slice (some ⟨bn, on, none⟩) nn nc, .slice la ln lc, .int .i64 (sy : Int), .slice (some ⟨bp, off, none⟩) n pc] k1 k2 nn may g) := HN1.out.kept hg5
            have HBY := boxKept HBX.out hg5
            have hby : k2 < wr.heap.size := HNG.out.row.lt
            clear hg5 n0 n1 n2 n3 n4 p0 p1 p2 b1 m0 m1 m2 m3 m4 c0 c1 c2 HNG HN1 HBX
            obtain ⟨n0, n1, n2, n3, n4⟩ := HN2.out.ph.cells
            obtain ⟨⟨p0, p1, p2⟩, _⟩ := box3 HBY.out
            cases fb with
            | false =>
              have HE : Hid (chD tn L R may k g = false) := by show _ = _; unfold chD; rw [HGD.out, HGV.out, ← HFB.out]; rfl
              go_wp2_with fail
              go_roundg (n - (k + 1))
              case measure => have := HGX.out; omega
              case rel => exact ⟨k + 1, by omega, rfl, by go_num, by rw [HRS.out.2, HE.out, Bool.or_false], by rw [HRS.out.1, stD_same _ _ HE.out]; exact HN2.out⟩
            | true =>
              have HGT : Hid (goD tn L R may k g = true) := by show _ = _; rw [HGD.out, HGV.out, ← HFB.out]; rfl
              obtain ⟨pz, hpz⟩ : ∃ pz, pz = wr.heap.size := ⟨_, rfl⟩
              rw [← hpz] at hby HBY p0 p1 p2 ⊢
              clear hpz
              generalize wr = W5 at *
              go_wp2_with fail
              go_loopg [5, 8, 9] rl (fun gy a i d wx => ∃ j : Nat, j ≤ rl ∧ gy = rl - j ∧ i = .int .i64 j ∧ a = .bool (ch || chJ tn g (R k) j) ∧ UdAt w wx #[.slice ta tn tc, .slice (some ⟨bn, on, none⟩) nn nc, .slice la ln lc, .int .i64 (sy : Int), .slice (some ⟨bp, off, none⟩) n pc] k1 k2 nn may (inJ tn g (R k) j) ∧ wx.heap[pz]? = some (.cells #[.int .i64 (y : Int), .slice al rl cl, .int .i64 z] 45 (0, 0)))
              case atStart => exact ⟨0, Nat.zero_le _, rfl, rfl, by rw [chJ_zero, Bool.or_false], by rw [inJ_zero]; exact HN2.out, HBY.out⟩
              case round =>
                obtain ⟨j, hj, hgy, rfl, rfl, hUj, hBj⟩ := hrel
                have HGY : Hid (gk = rl - j) := hgy
                have HUJ : Hid (UdAt w wr #[.slice ta tn tc, .slice (some ⟨bn, on, none⟩) nn nc, .slice la ln lc, .int .i64 (sy : Int), .slice (some ⟨bp, off, none⟩) n pc] k1 k2 nn may (inJ tn g (R k) j)) := hUj
                have HBJ : Hid (wr.heap[pz]? = some (.cells #[.int .i64 (y : Int), .slice al rl cl, .int .i64 z] 45 (0, 0))) := hBj
                clear hgy hUj hBj HN2 HBY n0 n1 n2 n3 n4 p0 p1 p2
                obtain ⟨n0, n1, n2, n3, n4⟩ := HUJ.out.ph.cells
                obtain ⟨⟨p0, p1, p2⟩, _⟩ := box3 HBJ.out
                obtain ⟨cj, hcj⟩ : ∃ cj, cj = chJ tn g (R k) j := ⟨_, rfl⟩
                have HCJ : Hid (cj = chJ tn g (R k) j) := hcj
                rw [← hcj]
                clear hcj
                by_cases hjl : j < rl
                · have hjR : j < (R k).length := by rw [← HRL.out]; exact hjl
                  obtain ⟨bq, oq, rfl, hcs⟩ : ∃ b off, al = some ⟨b, off, none⟩ ∧ ∀ i, i < (R k).length → w.cell? ⟨b, off + i, none⟩ = some (.int .i64 ((R k).getD i 0)) := by
                    rcases HIK.out.1 with h | h
                    · rw [h] at hjR; simp at hjR
                    · exact h
                  have x0 := HUJ.out.ph.grown.cell (hcs j hjR) (by simp)
                  obtain ⟨hx1, hx2⟩ := HIK.out.2 _ (int_mem hjR)
                  have hj0 : (0 : Int) ≤ (j : Int) := by omega
                  have hj1 : (j : Int) < (rl : Int) := by omega
                  have hjd : decide (j < rl) = true := decide_eq_true hjl
                  by_cases hxt : (R k).getD j 0 < (tn : Int)
                  · obtain ⟨xv, hxv⟩ : ∃ xv, xv = (R k).getD j 0 := ⟨_, rfl⟩
                    have HST := show Hid _ from inJ_term (f := g) hjR hxt
                    rw [← hxv] at x0 hx1 hx2 hxt
                    clear hcs hxv
                    have hneg : decide ((0 : Int) ≤ xv - (tn : Int)) = false := decide_eq_false (by omega)
                    have hneg2 : decide ((tn : Int) ≤ xv) = false := decide_eq_false (by omega)
                    have hwr : IntKind.i64.wrap (xv - (tn : Int)) = xv - (tn : Int) := by rw [IntKind.wrap_i64]; omega
                    go_wp2_with fail
                    go_region_held3 (fun x => x.cell? ⟨pz, 1, none⟩ = some (.slice (some ⟨bq, oq, none⟩) rl cl) ∧ x.cell? ⟨w.heap.size, 0, none⟩ = some (.slice ta tn tc) ∧ x.cell? ⟨bq, oq + j, none⟩ = some (.int .i64 xv)) (go_keep) (fail)
                    go_wp2_with fail
                    go_roundg (rl - (j + 1))
                    case measure => have := HGY.out; omega
                    case rel => exact ⟨j + 1, by omega, rfl, by go_num, by rw [HST.out.2, HCJ.out], by rw [HST.out.1]; exact HUJ.out.kept (grown_drewN _ 1), HBJ.out⟩
                  · obtain ⟨xv, hxv⟩ : ∃ xv : Nat, (R k).getD j 0 = ((tn + xv : Nat) : Int) := ⟨((R k).getD j 0 - tn).toNat, by omega⟩
                    have hxn : xv < nn := by omega
                    obtain ⟨xs, hxs⟩ : ∃ xs, xs = tn + xv := ⟨_, rfl⟩
                    have HXV : Hid ((R k).getD j 0 = ((tn + xv : Nat) : Int)) := hxv
                    rw [hxv, ← hxs] at x0
                    have e2 : (xs : Int) - (tn : Int) = (xv : Int) := by omega
                    have e3 : IntKind.i64.wrap (xv : Int) = (xv : Int) := by rw [IntKind.wrap_i64]; omega
                    have e4 : decide ((0 : Int) ≤ (xv : Int)) = true := decide_eq_true (by omega)
                    have e5 : (0 : Int) ≤ (xv : Int) := by omega
                    have e6 : (xv : Int) < (nn : Int) := by omega
                    clear hcs hxv hxs hxt hx1 hx2
                    have q0 := HUJ.out.row.cell xv hxn
                    have qf := HUJ.out.row.free xv
                    cases hq : inJ tn g (R k) j xv with
                    | true =>
                      rw [hq] at q0
                      have HST := show Hid _ from inJ_had hjR HXV.out hq
                      clear hq
                      go_wp2_with fail
                      go_region_held3 (fun x => x.cell? ⟨pz, 1, none⟩ = some (.slice (some ⟨bq, oq, none⟩) rl cl) ∧ x.cell? ⟨w.heap.size, 0, none⟩ = some (.slice ta tn tc) ∧ x.cell? ⟨bq, oq + j, none⟩ = some (.int .i64 (xs : Int))) (go_keep) (fail)
                      go_wp2_with fail
                      go_roundg (rl - (j + 1))
                      case measure => have := HGY.out; omega
                      case rel => exact ⟨j + 1, by omega, rfl, by go_num, by rw [HST.out.2, HCJ.out], by rw [HST.out.1]; exact HUJ.out.kept (grown_drewN _ 1), HBJ.out⟩
                    | false =>
                      rw [hq] at q0
                      have HST := show Hid _ from inJ_new hjR HXV.out hq
                      clear hq
                      go_wp2_with fail
                      go_region_held3 (fun x => x.cell? ⟨pz, 1, none⟩ = some (.slice (some ⟨bq, oq, none⟩) rl cl) ∧ x.cell? ⟨w.heap.size, 0, none⟩ = some (.slice ta tn tc) ∧ x.cell? ⟨bq, oq + j, none⟩ = some (.int .i64 (xs : Int))) (go_keep) (fail)
                      go_wp2_with fail
                      go_roundg (rl - (j + 1))
                      case measure => have := HGY.out; omega
                      case rel => exact ⟨j + 1, by omega, rfl, by go_num, by rw [HST.out.2, Bool.or_true], by rw [HST.out.1]; exact (HUJ.out.kept (grown_drewN _ 1)).set xv true, ((grown_setCell (w := wr.drew) k2 xv (.bool true)).block pz (Array.getElem?_eq_some_iff.1 HBJ.out).1 (by simp; omega)).trans HBJ.out⟩
                · have hjn : rl = j := by omega
                  have HJE : Hid (j = (R k).length) := by show _ = _; rw [← HRL.out, hjn]
                  have HE1 : Hid (stD tn L R may k g = inJ tn g (R k) j) := by
                    show _ = _
                    unfold stD
                    rw [if_pos HGT.out, HJE.out, inJ_all]
                  have HE2 : Hid (chD tn L R may k g = cj) := by
                    show _ = _
                    unfold chD
                    rw [HGT.out, Bool.true_and, HCJ.out, HJE.out, chJ_all]
                  have hjd : decide (j < rl) = false := decide_eq_false hjl
                  have hjm : j ≤ 17592186044416 := by omega
                  clear hjn
                  go_wp2_with fail
                  go_roundg (n - (k + 1))
                  case measure => have := HGX.out; omega
                  case rel => exact ⟨k + 1, by omega, rfl, by go_num, by rw [HRS.out.2, HE2.out], by rw [HRS.out.1, HE1.out]; exact HUJ.out⟩
        · have hkn : n = k := by omega
          subst hkn
          have HUN := un_rndD tn nn L R may f n (fun i hi => HM.out.right i hi)
          obtain ⟨g, hg⟩ : ∃ g, g = rnd (stD tn L R may) n f := ⟨_, rfl⟩
          have HITR : Hid (g = itr (stD tn L R may) n (t + 1) (startD s false p)) := by rw [hg, HF.out]; exact rfl
          have HSAME : Hid (rchg (stD tn L R may) (chD tn L R may) n f = false → rchg (stD tn L R may) (chD tn L R may) n g = false) := fun h => by rw [hg, rnd_same _ _ (fun i s hs => stD_same i s hs) f n h]; exact h
          obtain ⟨ch, hch⟩ : ∃ ch, ch = rchg (stD tn L R may) (chD tn L R may) n f := ⟨_, rfl⟩
          have HNG : Hid (UdAt w wr #[.slice ta tn tc, .slice (some ⟨bn, on, none⟩) nn nc, .slice la ln lc, .int .i64 (sy : Int), .slice pa n pc] k1 k2 nn may g) := by rw [hg]; exact HN0.out
          rw [← hg, ← hch] at HUN
          rw [← hch] at HSAME ⊢
          have HUU : Hid (un nn g + ch.toNat ≤ un nn f) := HUN
          clear HUN hg hch HN0
          go_wp2_with fail
          go_roundg (if ch = true then un nn g + 1 else 0)
          case measure =>
            have h7 := HGK.out
            have h8 := HUU.out
            simp at h7
            cases ch with
            | true => simp at h8 ⊢; omega
            | false => simp; omega
          case rel => exact ⟨ch, t + 1, g, rfl, HITR.out, HSAME.out, rfl, HNG.out⟩

set_option maxRecDepth 100000 in
set_option maxHeartbeats 2000000 in
theorem rused_true (ta na la pa : Option Addr) (tc nc lc pc : Nat) (ts : List (ByteArray × Int)) (ns : List ByteArray) (lv : List Int) (n : Nat) (L : Nat → Int) (R : Nat → List Int) (ra : Nat → Option Addr) (rc : Nat → Nat) (V : Nat → Int) (st : Int) (w : World) (tn nn ln : Nat) (hlen : ts.length = tn ∧ ns.length = nn ∧ lv.length = ln) (hG : GAt w ta na la pa tc nc lc pc ts ns lv n L R ra rc V) (hM : MayOK tn nn n st L R true) (hcl : true = true ↔ ns.getD 0 ⟨#[]⟩ = ⟨#[]⟩) :
    Calls Try.prog 24 #[.agg #[.slice ta tn tc, .slice na nn nc, .slice la ln lc, .int .i64 st, .slice pa n pc]] w fun e y => UsedTold tn nn n st L R true w e y := by
  have hnn : nn ≤ 65 := hM.nmax
  have htn : tn ≤ 65 := hM.tmax
  have hpn : n ≤ 97 := hM.pmax
  have HM : Hid (MayOK tn nn n st L R true) := hM
  have HP : Hid (ProdsAt w pa n L R ra rc V) := hG.prods
  have HX0 : Hid (PhAt w (w.alloc (.cells #[.slice ta tn tc, .slice na nn nc, .slice la ln lc, .int .i64 st, .slice pa n pc] 27)) w.heap.size #[.slice ta tn tc, .slice na nn nc, .slice la ln lc, .int .i64 st, .slice pa n pc]) := ⟨World.grownBy_alloc _ _ none, heap_alloc_last w _⟩
  have HMK : Hid (∀ X, w.grownBy X none → Calls Try.prog 25 #[.agg #[.slice ta tn tc, .slice na nn nc, .slice la ln lc, .int .i64 st, .slice pa n pc]] X fun e w' => ∃ k, e = .returned (.slice (some ⟨k, 0, none⟩) nn nn) ∧ X.heap.size ≤ k ∧ MadeM w' k nn tn n L R ∧ X.grownBy w' none) := fun X hX => rmarks_any ta na la pa tn nn ln n tc nc lc pc st L R ra rc V X (hG.kept hX).prods hM.pmax (by omega) hM.left (fun k hk x hx => ⟨by have := hM.right k hk x hx; omega, (hM.right k hk x hx).2⟩)
  obtain ⟨bn, on, rfl, hcs⟩ : ∃ b off, na = some ⟨b, off, none⟩ ∧ ∀ i, i < ns.length → w.cell? ⟨b, off + i, none⟩ = some (.string (ns.getD i ⟨#[]⟩)) := by
    rcases hG.nons with h | h
    · have h1 := hlen.2.1; have h2 := hM.n0; rw [h] at h1; simp at h1; omega
    · exact h
  have hnm := hcs 0 (by rw [hlen.2.1]; exact hM.n0)
  rw [Nat.add_zero] at hnm
  have HNM : Hid (w.cell? ⟨bn, on, none⟩ = some (.string (ns.getD 0 ⟨#[]⟩))) := hnm
  have HCL : Hid (true = true ↔ ns.getD 0 ⟨#[]⟩ = ⟨#[]⟩) := hcl
  obtain ⟨s, hs⟩ : ∃ s : Nat, st = ((tn + s : Nat) : Int) := ⟨(st - tn).toNat, by have := hM.start; omega⟩
  have hsn : s < nn := by have := hM.start; omega
  have hs2 : (st - (tn : Int)).toNat = s := by omega
  have HS2 : Hid ((st - (tn : Int)).toNat = s) := hs2
  have hn0 : 0 < nn := hM.n0
  clear hG hlen hcs hnm hcl hM hs2
  obtain ⟨sy, hsy⟩ : ∃ sy, sy = tn + s := ⟨_, rfl⟩
  rw [← hsy] at hs
  have hd1 : (sy : Int) - (tn : Int) = (s : Int) := by omega
  have hd3 : IntKind.i64.wrap (s : Int) = (s : Int) := by rw [IntKind.wrap_i64]; omega
  have hv0 : (0 : Int) ≤ (s : Int) := by omega
  have hv1 : (s : Int) < (nn : Int) := by omega
  subst hs
  clear hsy
  obtain ⟨i0, hi, hz0, hz1, hz2⟩ := info_parts infoBool
  go_enter Try.func24, Try.ntmps24
  go_wp2_with fail
  refine Calls.mono (HMK.out _ HX0.out.grown) ?_
  rintro e w1 ⟨k1, rfl, hk1, ⟨may, hB1, hF1⟩, hg1⟩
  have HX1 : Hid (PhAt w w1 w.heap.size #[.slice ta tn tc, .slice (some ⟨bn, on, none⟩) nn nc, .slice la ln lc, .int .i64 (sy : Int), .slice pa n pc]) := HX0.out.kept hg1
  have HB1 : Hid (BoolAt w1 k1 nn may) := hB1
  have HF1 : Hid (Fix (stM tn L R) (chM tn L R) n (fun _ => false) may) := hF1
  have hk1b : k1 < w1.heap.size := hB1.lt
  have HK1 : Hid (w.heap.size + 1 ≤ w1.heap.size) := by have := hg1.size; show _ ≤ _; simp at this; omega
  obtain ⟨m0, m1, m2, m3, m4⟩ := HX1.out.cells
  clear hk1 hB1 hF1 hg1 HX0 HMK
  go_wp2_with (at_make; refine wpList_make_full _ rfl _ _ 29 rfl (w.heap.size + 1) 4 i0 (.bool false) 1 Try.underlying29 hi hz0 hz1 .i64 .i64 _ _ nn rfl rfl (by simp) (by simp) (by rw [hz2]; omega) (by unfold maxLen; omega) HK1.out ?_)
  intro w2 hown hgrow
  obtain ⟨k2, hk2⟩ : ∃ k2, k2 = w1.heap.size := ⟨_, rfl⟩
  have hUd : UdAt w w2 #[.slice ta tn tc, .slice (some ⟨bn, on, none⟩) nn nc, .slice la ln lc, .int .i64 (sy : Int), .slice pa n pc] k1 k2 nn may (fun _ => false) := by
    refine ⟨HX1.out.kept hgrow, HB1.out.kept hgrow, ?_, by have := HK1.out; omega, by omega⟩
    rw [hk2]
    exact made_bools (w := w1) (w1 := w2) (B := w.heap.size + 1) (n := nn) (by simpa [Value.cells] using hown)
  rw [← hk2]
  have HUD : Hid (UdAt w w2 #[.slice ta tn tc, .slice (some ⟨bn, on, none⟩) nn nc, .slice la ln lc, .int .i64 (sy : Int), .slice pa n pc] k1 k2 nn may (fun _ => false)) := hUd
  have hne12 : k1 ≠ k2 := by omega
  have hne21 : k2 ≠ k1 := by omega
  have hwk : w.heap.size < k2 := by have := HK1.out; omega
  have hwk2 : w.heap.size ≠ k2 := by omega
  have hwk3 : k2 ≠ w.heap.size := by omega
  clear hown hgrow hUd hi hz0 hz1 hz2 hk2 HX1 HB1 HK1 hk1b m0 m1 m2 m3 m4
  obtain ⟨m0, m1, m2, m3, m4⟩ := HUD.out.ph.cells
  have a0 := HUD.out.may.cell s hsn
  have r0 := HUD.out.row.cell s hsn
  have rf := HUD.out.row.free s
  obtain ⟨p, hp⟩ : ∃ p, p = may s := ⟨_, rfl⟩
  have HPP : Hid (p = may s) := hp
  rw [← hp] at a0
  clear hp
  go_wp2_with fail
  go_region_held3 (fun x => x.cell? ⟨w.heap.size, 3, none⟩ = some (.int .i64 (sy : Int)) ∧ x.cell? ⟨w.heap.size, 0, none⟩ = some (.slice ta tn tc) ∧ x.cell? ⟨k1, s, none⟩ = some (.bool p)) (go_keep) (fail)
  have HU3 : Hid (UdAt w (w2.setCell ⟨k2, s, none⟩ (.bool p)).drew #[.slice ta tn tc, .slice (some ⟨bn, on, none⟩) nn nc, .slice la ln lc, .int .i64 (sy : Int), .slice pa n pc] k1 k2 nn may (mark (fun _ => false) s p)) := (HUD.out.set s p).kept (grown_drewN _ 1)
  generalize (w2.setCell ⟨k2, s, none⟩ (.bool p)).drew = X3 at *
  clear HUD a0 r0 rf m0 m1 m2 m3 m4
  obtain ⟨m0, m1, m2, m3, m4⟩ := HU3.out.ph.cells
  have nm0 := HU3.out.ph.grown.cell HNM.out (by simp)
  have a0 := HU3.out.may.cell s hsn
  rw [← HPP.out] at a0
  obtain ⟨nm, hnm⟩ : ∃ nm, nm = ns.getD 0 ⟨#[]⟩ := ⟨_, rfl⟩
  have HNE : Hid (nm = ns.getD 0 ⟨#[]⟩) := hnm
  rw [← hnm] at nm0
  clear hnm
  have hne : nm = ⟨#[]⟩ := by rw [HNE.out]; exact HCL.out.1 (by first | rfl | trivial)
  subst hne
  have r00 := HU3.out.row.cell 0 hn0
  have rf0 := HU3.out.row.free 0
  have a00 := HU3.out.may.cell s hsn
  rw [← HPP.out] at a00
  obtain ⟨r9, hr9⟩ : ∃ r9, r9 = mark (fun _ => false) s p 0 := ⟨_, rfl⟩
  rw [← hr9] at r00
  clear hr9
  have HU4 : Hid (UdAt w (X3.setCell ⟨k2, 0, none⟩ (.bool p)) #[.slice ta tn tc, .slice (some ⟨bn, on, none⟩) nn nc, .slice la ln lc, .int .i64 (sy : Int), .slice pa n pc] k1 k2 nn may (startD s true p)) := by
    have e : mark (mark (fun _ => false) s p) 0 p = startD s true p := by
      funext i
      unfold mark startD
      by_cases e0 : i = 0
      · rw [if_pos e0]; simp [e0]
      · rw [if_neg e0]
        by_cases e1 : i = s
        · rw [if_pos e1]; simp [e1]
        · rw [if_neg e1]; simp [e1, e0]
    rw [← e]; exact HU3.out.set 0 p
  clear HU3
  go_wp2_with fail
  generalize X3.setCell ⟨k2, 0, none⟩ (.bool p) = X4 at *

  clear nm0 a0 m0 m1 m2 m3 m4
  go_loopg [5] (un nn (startD s true p) + 1) (fun gk a wr => ∃ (b : Bool) (t : Nat) (f : Nat → Bool), a = .bool b ∧ f = itr (stD tn L R may) n t (startD s true p) ∧ (b = false → rchg (stD tn L R may) (chD tn L R may) n f = false) ∧ gk = (if b = true then un nn f + 1 else 0) ∧ UdAt w wr #[.slice ta tn tc, .slice (some ⟨bn, on, none⟩) nn nc, .slice la ln lc, .int .i64 (sy : Int), .slice pa n pc] k1 k2 nn may f)
  case atStart => exact ⟨true, 0, startD s true p, rfl, rfl, by simp, by simp, HU4.out⟩
  case round =>
    obtain ⟨b, t, f, rfl, hf, hbf, hgk, hU⟩ := hrel
    have HF : Hid (f = itr (stD tn L R may) n t (startD s true p)) := hf
    have HBF : Hid (b = false → rchg (stD tn L R may) (chD tn L R may) n f = false) := hbf
    have HGK : Hid (gk = (if b = true then un nn f + 1 else 0)) := hgk
    have HU : Hid (UdAt w wr #[.slice ta tn tc, .slice (some ⟨bn, on, none⟩) nn nc, .slice la ln lc, .int .i64 (sy : Int), .slice pa n pc] k1 k2 nn may f) := hU
    clear hf hbf hgk hU HU4
    cases b with
    | false =>
      go_wp2_with fail
      go_ret
      exact ⟨k2, may, f, rfl, by have := HU.out.lo; omega, HU.out.row, HF1.out, by rw [HS2.out, ← HPP.out]; exact ⟨t, HF.out, HBF.out (by first | rfl | trivial)⟩, HU.out.ph.grown⟩
    | true =>
      generalize wr = W0 at *
      go_wp2_with fail
      go_loopg [5, 6] n (fun gx a i wx => ∃ k : Nat, k ≤ n ∧ gx = n - k ∧ i = .int .i64 k ∧ a = .bool (rchg (stD tn L R may) (chD tn L R may) k f) ∧ UdAt w wx #[.slice ta tn tc, .slice (some ⟨bn, on, none⟩) nn nc, .slice la ln lc, .int .i64 (sy : Int), .slice pa n pc] k1 k2 nn may (rnd (stD tn L R may) k f))
      case atStart => exact ⟨0, Nat.zero_le _, rfl, rfl, rfl, HU.out⟩
      case round =>
        obtain ⟨k, hk, hgx, rfl, rfl, hN⟩ := hrel
        have HGX : Hid (gk = n - k) := hgx
        have HN0 : Hid (UdAt w wr #[.slice ta tn tc, .slice (some ⟨bn, on, none⟩) nn nc, .slice la ln lc, .int .i64 (sy : Int), .slice pa n pc] k1 k2 nn may (rnd (stD tn L R may) k f)) := hN
        clear hgx hN HU
        obtain ⟨m0, m1, m2, m3, m4⟩ := HN0.out.ph.cells
        by_cases hlt : k < n
        · obtain ⟨bp, off, rfl, hcs⟩ : ∃ b off, pa = some ⟨b, off, none⟩ ∧ ∀ k, k < n → w.cell? ⟨b, off + k * 3, none⟩ = some (.int .i64 (L k)) ∧ w.cell? ⟨b, off + k * 3 + 1, none⟩ = some (.slice (ra k) (R k).length (rc k)) ∧ w.cell? ⟨b, off + k * 3 + 2, none⟩ = some (.int .i64 (V k)) ∧ IntsAt w (ra k) (R k) ∧ (ra k = none → rc k = 0) ∧ (R k).length ≤ 17592186044416 := by
            rcases HP.out with h | h
            · omega
            · exact h
          obtain ⟨h1, h2, h3, hI, _, hlen⟩ := hcs k hlt
          have c0 := HN0.out.ph.grown.cell h1 (by simp)
          have c1 := HN0.out.ph.grown.cell h2 (by simp)
          have c2 := HN0.out.ph.grown.cell h3 (by simp)
          obtain ⟨hl1, hl2⟩ := HM.out.left k hlt
          obtain ⟨v, hv⟩ : ∃ v : Nat, L k = ((tn + v : Nat) : Int) := ⟨(L k - tn).toNat, by omega⟩
          have hvn : v < nn := by omega
          have ev : (L k - (tn : Int)).toNat = v := by omega
          have HGD : Hid (∀ g, goD tn L R may k g = (g v && fitsB tn may (R k))) := fun g => by unfold goD; rw [ev]
          obtain ⟨y, hy⟩ : ∃ y, y = tn + v := ⟨_, rfl⟩
          rw [hv, ← hy] at c0
          have d2 : (y : Int) - (tn : Int) = (v : Int) := by omega
          have d3 : IntKind.i64.wrap (v : Int) = (v : Int) := by rw [IntKind.wrap_i64]; omega
          have hw0 : (0 : Int) ≤ (v : Int) := by omega
          have hw1 : (v : Int) < (nn : Int) := by omega
          obtain ⟨fb, hfb⟩ : ∃ fb, fb = fitsB tn may (R k) := ⟨_, rfl⟩
          have HFB : Hid (fb = fitsB tn may (R k)) := hfb
          have HFT : Hid (∀ X, w.grownBy X none → BoolAt X k1 nn may → Calls Try.prog 35 #[.agg #[.slice ta tn tc, .slice (some ⟨bn, on, none⟩) nn nc, .slice la ln lc, .int .i64 (sy : Int), .slice (some ⟨bp, off, none⟩) n pc], .slice (some ⟨k1, 0, none⟩) nn nn, .slice (ra k) (R k).length (rc k)] X fun e w' => e = .returned (.bool fb) ∧ X.grownBy w' none) := fun X hX hB => by
            rw [hfb]
            exact rfits_any ta (some ⟨bn, on, none⟩) la (some ⟨bp, off, none⟩) (ra k) tn nn ln n tc nc lc pc (rc k) k1 (sy : Int) may (R k) X hB (hI.kept hX) hlen (by omega) (fun x hx => ⟨by have := HM.out.right k hlt x hx; omega, (HM.out.right k hlt x hx).2⟩) _ (fitsB_iff tn may (R k))
          have HRS : Hid (rnd (stD tn L R may) (k + 1) f = stD tn L R may k (rnd (stD tn L R may) k f) ∧ rchg (stD tn L R may) (chD tn L R may) (k + 1) f = (rchg (stD tn L R may) (chD tn L R may) k f || chD tn L R may k (rnd (stD tn L R may) k f))) := ⟨rfl, rfl⟩
          obtain ⟨g, hg⟩ : ∃ g, g = rnd (stD tn L R may) k f := ⟨_, rfl⟩
          obtain ⟨ch, hch⟩ : ∃ ch, ch = rchg (stD tn L R may) (chD tn L R may) k f := ⟨_, rfl⟩
          rw [← hg] at HRS
          rw [← hch] at HRS ⊢
          have HNG : Hid (UdAt w wr #[.slice ta tn tc, .slice (some ⟨bn, on, none⟩) nn nc, .slice la ln lc, .int .i64 (sy : Int), .slice (some ⟨bp, off, none⟩) n pc] k1 k2 nn may g) := by rw [hg]; exact HN0.out
          have HIK : Hid (IntsAt w (ra k) (R k) ∧ ∀ x ∈ R k, (0 : Int) < x ∧ x < ((tn + nn : Nat) : Int)) := ⟨hI, HM.out.right k hlt⟩
          obtain ⟨z, hz⟩ : ∃ z, z = V k := ⟨_, rfl⟩
          rw [← hz] at c2
          obtain ⟨al, hal⟩ : ∃ al, al = ra k := ⟨_, rfl⟩
          obtain ⟨rl, hrl⟩ : ∃ rl, rl = (R k).length := ⟨_, rfl⟩
          obtain ⟨cl, hcl⟩ : ∃ cl, cl = rc k := ⟨_, rfl⟩
          have HRL : Hid (rl = (R k).length) := hrl
          have hrl1 : rl ≤ 17592186044416 := by omega
          rw [← hal, ← hrl, ← hcl] at c1 HFT
          rw [← hal] at HIK
          have hAl := World.grownBy_alloc wr (.cells #[.int .i64 (y : Int), .slice al rl cl, .int .i64 z] 45) none
          have HN1 : Hid (UdAt w (wr.alloc (.cells #[.int .i64 (y : Int), .slice al rl cl, .int .i64 z] 45)) #[.slice ta tn tc, .slice (some ⟨bn, on, none⟩) nn nc, .slice la ln lc, .int .i64 (sy : Int), .slice (some ⟨bp, off, none⟩) n pc] k1 k2 nn may g) := HNG.out.kept hAl
          have HBX : Hid ((wr.alloc (.cells #[.int .i64 (y : Int), .slice al rl cl, .int .i64 z] 45)).heap[wr.heap.size]? = some (.cells #[.int .i64 (y : Int), .slice al rl cl, .int .i64 z] 45 (0, 0))) := heap_alloc_last wr _
          clear hcs h1 h2 h3 hI hlen hl1 hl2 hv ev hg hch hfb hz hal hrl hcl hy HN0 hAl
          obtain ⟨n0, n1, n2, n3, n4⟩ := HN1.out.ph.cells
          obtain ⟨⟨p0, p1, p2⟩, _⟩ := box3 HBX.out
          have b1 := HN1.out.row.cell v hvn
          cases hgv : g v with
          | false =>
            rw [hgv] at b1
            have HE : Hid (chD tn L R may k g = false) := by show _ = _; unfold chD; rw [HGD.out, hgv]; rfl
            clear hgv
            go_wp2_with fail
            go_roundg (n - (k + 1))
            case measure => have := HGX.out; omega
            case rel => exact ⟨k + 1, by omega, rfl, by go_num, by rw [HRS.out.2, HE.out, Bool.or_false], by rw [HRS.out.1, stD_same _ _ HE.out]; exact HN1.out⟩
          | true =>
            rw [hgv] at b1
            have HGV : Hid (g v = true) := hgv
            clear hgv
            go_wp2_with fail
            refine Calls.mono (HFT.out _ HN1.out.ph.grown HN1.out.may) ?_
            rintro e w5 ⟨rfl, hg5⟩
            have HN2 : Hid (UdAt w w5 #[.slice ta tn tc, .slice (some ⟨bn, on, none⟩) nn nc, .slice la ln lc, .int .i64 (sy : Int), .slice (some ⟨bp, off, none⟩) n pc] k1 k2 nn may g) := HN1.out.kept hg5
            have HBY := boxKept HBX.out hg5
            have hby : k2 < wr.heap.size := HNG.out.row.lt
            clear hg5 n0 n1 n2 n3 n4 p0 p1 p2 b1 m0 m1 m2 m3 m4 c0 c1 c2 HNG HN1 HBX
            obtain ⟨n0, n1, n2, n3, n4⟩ := HN2.out.ph.cells
            obtain ⟨⟨p0, p1, p2⟩, _⟩ := box3 HBY.out
            cases fb with
            | false =>
              have HE : Hid (chD tn L R may k g = false) := by show _ = _; unfold chD; rw [HGD.out, HGV.out, ← HFB.out]; rfl
              go_wp2_with fail
              go_roundg (n - (k + 1))
              case measure => have := HGX.out; omega
              case rel => exact ⟨k + 1, by omega, rfl, by go_num, by rw [HRS.out.2, HE.out, Bool.or_false], by rw [HRS.out.1, stD_same _ _ HE.out]; exact HN2.out⟩
            | true =>
              have HGT : Hid (goD tn L R may k g = true) := by show _ = _; rw [HGD.out, HGV.out, ← HFB.out]; rfl
              obtain ⟨pz, hpz⟩ : ∃ pz, pz = wr.heap.size := ⟨_, rfl⟩
              rw [← hpz] at hby HBY p0 p1 p2 ⊢
              clear hpz
              generalize wr = W5 at *
              go_wp2_with fail
              go_loopg [5, 8, 9] rl (fun gy a i d wx => ∃ j : Nat, j ≤ rl ∧ gy = rl - j ∧ i = .int .i64 j ∧ a = .bool (ch || chJ tn g (R k) j) ∧ UdAt w wx #[.slice ta tn tc, .slice (some ⟨bn, on, none⟩) nn nc, .slice la ln lc, .int .i64 (sy : Int), .slice (some ⟨bp, off, none⟩) n pc] k1 k2 nn may (inJ tn g (R k) j) ∧ wx.heap[pz]? = some (.cells #[.int .i64 (y : Int), .slice al rl cl, .int .i64 z] 45 (0, 0)))
              case atStart => exact ⟨0, Nat.zero_le _, rfl, rfl, by rw [chJ_zero, Bool.or_false], by rw [inJ_zero]; exact HN2.out, HBY.out⟩
              case round =>
                obtain ⟨j, hj, hgy, rfl, rfl, hUj, hBj⟩ := hrel
                have HGY : Hid (gk = rl - j) := hgy
                have HUJ : Hid (UdAt w wr #[.slice ta tn tc, .slice (some ⟨bn, on, none⟩) nn nc, .slice la ln lc, .int .i64 (sy : Int), .slice (some ⟨bp, off, none⟩) n pc] k1 k2 nn may (inJ tn g (R k) j)) := hUj
                have HBJ : Hid (wr.heap[pz]? = some (.cells #[.int .i64 (y : Int), .slice al rl cl, .int .i64 z] 45 (0, 0))) := hBj
                clear hgy hUj hBj HN2 HBY n0 n1 n2 n3 n4 p0 p1 p2
                obtain ⟨n0, n1, n2, n3, n4⟩ := HUJ.out.ph.cells
                obtain ⟨⟨p0, p1, p2⟩, _⟩ := box3 HBJ.out
                obtain ⟨cj, hcj⟩ : ∃ cj, cj = chJ tn g (R k) j := ⟨_, rfl⟩
                have HCJ : Hid (cj = chJ tn g (R k) j) := hcj
                rw [← hcj]
                clear hcj
                by_cases hjl : j < rl
                · have hjR : j < (R k).length := by rw [← HRL.out]; exact hjl
                  obtain ⟨bq, oq, rfl, hcs⟩ : ∃ b off, al = some ⟨b, off, none⟩ ∧ ∀ i, i < (R k).length → w.cell? ⟨b, off + i, none⟩ = some (.int .i64 ((R k).getD i 0)) := by
                    rcases HIK.out.1 with h | h
                    · rw [h] at hjR; simp at hjR
                    · exact h
                  have x0 := HUJ.out.ph.grown.cell (hcs j hjR) (by simp)
                  obtain ⟨hx1, hx2⟩ := HIK.out.2 _ (int_mem hjR)
                  have hj0 : (0 : Int) ≤ (j : Int) := by omega
                  have hj1 : (j : Int) < (rl : Int) := by omega
                  have hjd : decide (j < rl) = true := decide_eq_true hjl
                  by_cases hxt : (R k).getD j 0 < (tn : Int)
                  · obtain ⟨xv, hxv⟩ : ∃ xv, xv = (R k).getD j 0 := ⟨_, rfl⟩
                    have HST := show Hid _ from inJ_term (f := g) hjR hxt
                    rw [← hxv] at x0 hx1 hx2 hxt
                    clear hcs hxv
                    have hneg : decide ((0 : Int) ≤ xv - (tn : Int)) = false := decide_eq_false (by omega)
                    have hneg2 : decide ((tn : Int) ≤ xv) = false := decide_eq_false (by omega)
                    have hwr : IntKind.i64.wrap (xv - (tn : Int)) = xv - (tn : Int) := by rw [IntKind.wrap_i64]; omega
                    go_wp2_with fail
                    go_region_held3 (fun x => x.cell? ⟨pz, 1, none⟩ = some (.slice (some ⟨bq, oq, none⟩) rl cl) ∧ x.cell? ⟨w.heap.size, 0, none⟩ = some (.slice ta tn tc) ∧ x.cell? ⟨bq, oq + j, none⟩ = some (.int .i64 xv)) (go_keep) (fail)
                    go_wp2_with fail
                    go_roundg (rl - (j + 1))
                    case measure => have := HGY.out; omega
                    case rel => exact ⟨j + 1, by omega, rfl, by go_num, by rw [HST.out.2, HCJ.out], by rw [HST.out.1]; exact HUJ.out.kept (grown_drewN _ 1), HBJ.out⟩
                  · obtain ⟨xv, hxv⟩ : ∃ xv : Nat, (R k).getD j 0 = ((tn + xv : Nat) : Int) := ⟨((R k).getD j 0 - tn).toNat, by omega⟩
                    have hxn : xv < nn := by omega
                    obtain ⟨xs, hxs⟩ : ∃ xs, xs = tn + xv := ⟨_, rfl⟩
                    have HXV : Hid ((R k).getD j 0 = ((tn + xv : Nat) : Int)) := hxv
                    rw [hxv, ← hxs] at x0
                    have e2 : (xs : Int) - (tn : Int) = (xv : Int) := by omega
                    have e3 : IntKind.i64.wrap (xv : Int) = (xv : Int) := by rw [IntKind.wrap_i64]; omega
                    have e4 : decide ((0 : Int) ≤ (xv : Int)) = true := decide_eq_true (by omega)
                    have e5 : (0 : Int) ≤ (xv : Int) := by omega
                    have e6 : (xv : Int) < (nn : Int) := by omega
                    clear hcs hxv hxs hxt hx1 hx2
                    have q0 := HUJ.out.row.cell xv hxn
                    have qf := HUJ.out.row.free xv
                    cases hq : inJ tn g (R k) j xv with
                    | true =>
                      rw [hq] at q0
                      have HST := show Hid _ from inJ_had hjR HXV.out hq
                      clear hq
                      go_wp2_with fail
                      go_region_held3 (fun x => x.cell? ⟨pz, 1, none⟩ = some (.slice (some ⟨bq, oq, none⟩) rl cl) ∧ x.cell? ⟨w.heap.size, 0, none⟩ = some (.slice ta tn tc) ∧ x.cell? ⟨bq, oq + j, none⟩ = some (.int .i64 (xs : Int))) (go_keep) (fail)
                      go_wp2_with fail
                      go_roundg (rl - (j + 1))
                      case measure => have := HGY.out; omega
                      case rel => exact ⟨j + 1, by omega, rfl, by go_num, by rw [HST.out.2, HCJ.out], by rw [HST.out.1]; exact HUJ.out.kept (grown_drewN _ 1), HBJ.out⟩
                    | false =>
                      rw [hq] at q0
                      have HST := show Hid _ from inJ_new hjR HXV.out hq
                      clear hq
                      go_wp2_with fail
                      go_region_held3 (fun x => x.cell? ⟨pz, 1, none⟩ = some (.slice (some ⟨bq, oq, none⟩) rl cl) ∧ x.cell? ⟨w.heap.size, 0, none⟩ = some (.slice ta tn tc) ∧ x.cell? ⟨bq, oq + j, none⟩ = some (.int .i64 (xs : Int))) (go_keep) (fail)
                      go_wp2_with fail
                      go_roundg (rl - (j + 1))
                      case measure => have := HGY.out; omega
                      case rel => exact ⟨j + 1, by omega, rfl, by go_num, by rw [HST.out.2, Bool.or_true], by rw [HST.out.1]; exact (HUJ.out.kept (grown_drewN _ 1)).set xv true, ((grown_setCell (w := wr.drew) k2 xv (.bool true)).block pz (Array.getElem?_eq_some_iff.1 HBJ.out).1 (by simp; omega)).trans HBJ.out⟩
                · have hjn : rl = j := by omega
                  have HJE : Hid (j = (R k).length) := by show _ = _; rw [← HRL.out, hjn]
                  have HE1 : Hid (stD tn L R may k g = inJ tn g (R k) j) := by
                    show _ = _
                    unfold stD
                    rw [if_pos HGT.out, HJE.out, inJ_all]
                  have HE2 : Hid (chD tn L R may k g = cj) := by
                    show _ = _
                    unfold chD
                    rw [HGT.out, Bool.true_and, HCJ.out, HJE.out, chJ_all]
                  have hjd : decide (j < rl) = false := decide_eq_false hjl
                  have hjm : j ≤ 17592186044416 := by omega
                  clear hjn
                  go_wp2_with fail
                  go_roundg (n - (k + 1))
                  case measure => have := HGX.out; omega
                  case rel => exact ⟨k + 1, by omega, rfl, by go_num, by rw [HRS.out.2, HE2.out], by rw [HRS.out.1, HE1.out]; exact HUJ.out⟩
        · have hkn : n = k := by omega
          subst hkn
          have HUN := un_rndD tn nn L R may f n (fun i hi => HM.out.right i hi)
          obtain ⟨g, hg⟩ : ∃ g, g = rnd (stD tn L R may) n f := ⟨_, rfl⟩
          have HITR : Hid (g = itr (stD tn L R may) n (t + 1) (startD s true p)) := by rw [hg, HF.out]; exact rfl
          have HSAME : Hid (rchg (stD tn L R may) (chD tn L R may) n f = false → rchg (stD tn L R may) (chD tn L R may) n g = false) := fun h => by rw [hg, rnd_same _ _ (fun i s hs => stD_same i s hs) f n h]; exact h
          obtain ⟨ch, hch⟩ : ∃ ch, ch = rchg (stD tn L R may) (chD tn L R may) n f := ⟨_, rfl⟩
          have HNG : Hid (UdAt w wr #[.slice ta tn tc, .slice (some ⟨bn, on, none⟩) nn nc, .slice la ln lc, .int .i64 (sy : Int), .slice pa n pc] k1 k2 nn may g) := by rw [hg]; exact HN0.out
          rw [← hg, ← hch] at HUN
          rw [← hch] at HSAME ⊢
          have HUU : Hid (un nn g + ch.toNat ≤ un nn f) := HUN
          clear HUN hg hch HN0
          go_wp2_with fail
          go_roundg (if ch = true then un nn g + 1 else 0)
          case measure =>
            have h7 := HGK.out
            have h8 := HUU.out
            simp at h7
            cases ch with
            | true => simp at h8 ⊢; omega
            | false => simp; omega
          case rel => exact ⟨ch, t + 1, g, rfl, HITR.out, HSAME.out, rfl, HNG.out⟩


theorem rused_any (ta na la pa : Option Addr) (tc nc lc pc : Nat) (ts : List (ByteArray × Int)) (ns : List ByteArray) (lv : List Int) (n : Nat) (L : Nat → Int) (R : Nat → List Int) (ra : Nat → Option Addr) (rc : Nat → Nat) (V : Nat → Int) (st : Int) (w : World) (tn nn ln : Nat) (hlen : ts.length = tn ∧ ns.length = nn ∧ lv.length = ln) (hG : GAt w ta na la pa tc nc lc pc ts ns lv n L R ra rc V) (cl : Bool) (hM : MayOK tn nn n st L R cl) (hcl : cl = true ↔ ns.getD 0 ⟨#[]⟩ = ⟨#[]⟩) :
    Calls Try.prog 24 #[.agg #[.slice ta tn tc, .slice na nn nc, .slice la ln lc, .int .i64 st, .slice pa n pc]] w fun e y => UsedTold tn nn n st L R cl w e y := by
  cases cl with
  | false => exact rused_false ta na la pa tc nc lc pc ts ns lv n L R ra rc V st w tn nn ln hlen hG hM hcl
  | true => exact rused_true ta na la pa tc nc lc pc ts ns lv n L R ra rc V st w tn nn ln hlen hG hM hcl

end Go.Proofs.Ytljlkmiaemkokaa
