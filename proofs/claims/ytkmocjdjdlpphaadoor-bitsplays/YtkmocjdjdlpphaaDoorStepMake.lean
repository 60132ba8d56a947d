/-
  A step of a script: a set more.
-/
import Derived.Test.YtkmocjdjdlpphaaDoorStepPush
import Derived.Deep.CutRange
namespace Go.Proofs.YtkmocjdjdlpphaaDoor
open Go.RowKit Go.Shelf

attribute [local go_sem] Oper.semAt_some

section
variable {w V V' W1 W3 : World} {Bw Nx Nr : Nat} {vx vr : Value} {F : Fam} {Bo : Nat} {kind A B : Int} {sl : Value} {o : Obj} {a : Option Addr} {cap gL : Nat} {l : List Int}

/-- The sets, and the list that was lent. -/
def MAt (w V : World) (Bw Nx Nr : Nat) (vx vr : Value) (F : Fam) (Bo : Nat) (kind A B : Int) (sl : Value) (gL : Nat) (l : List Int) : Prop := QAt w V Bw Nx Nr vx vr F Bo kind A B sl ∧ LentAt V gL l 8

theorem MAt.drew (h : MAt w V Bw Nx Nr vx vr F Bo kind A B sl gL l) : MAt w V.drew Bw Nx Nr vx vr F Bo kind A B sl gL l := ⟨h.1.drew, h.2⟩

theorem mat_lent (hl : IntsAt w a l) (hlen : l.length ≤ 17592186043904) (h : QAt w V Bw Nx Nr vx vr F Bo kind A B sl) :
    Calls Tryd.prog 28 #[.slice a l.length cap] V fun e w' => e = .returned (.tuple #[.slice (some ⟨V.heap.size, 0, none⟩) l.length (l.length + 8), .slice (some ⟨V.heap.size, 0, none⟩) (l.length + 8) (l.length + 8)]) ∧ MAt w w' Bw Nx Nr vx vr F Bo kind A B sl V.heap.size l := by
  refine (lent_any a cap l V (hl.below h.inv.bel) (by omega)).mono ?_
  rintro e w' ⟨rfl, hL, hb⟩
  exact ⟨rfl, h.keep hb, hL⟩

theorem MAt.pushX (h : MAt w V Bw Nx Nr vx vr F Bo kind A B sl gL l) (hlt : Nx < 64) (hle : Nr ≤ Nx) {b' n m : Nat} {vx' : Value} (hb : Below V.heap.size V W1) (hb' : V.heap.size ≤ b') (hs : SetM W1 (some ⟨b', 0, none⟩) n m)
    (hown : W3.ownsRow w.heap.size 34 1 vx' (Nx + 1) (ptrsL F.b Nx ++ [.pointer (some ⟨b', 0, none⟩)])) (hg : (W1.alloc o).grownBy W3 vx.ownBlock) :
    MAt w (W3.setCell ⟨Bw, 0, none⟩ vx') Bw (Nx + 1) Nr vx' vr { F with b := upd F.b Nx b', n := upd F.n Nx n, mx := upd F.mx Nx m } Bo kind A B sl gL l := by
  have h2 := (h.1.keep hb).keep ((Below.refl _ W1).alloc (Nat.le_refl _) o)
  exact ⟨h.1.pushX hlt hle hb hb' hs hown hg, pushed_other h2.inv.xs hg h2.inv.head ((h.2.keep hb).keep ((Below.refl _ W1).alloc (Nat.le_refl _) o)) (by decide) (by decide)⟩
theorem MAt.pushR (h : MAt w V Bw Nx Nr vx vr F Bo kind A B sl gL l) (hlt : Nr < 64) {br' bi' m : Nat} {vr' : Value} (hb : Below V.heap.size V W1) (hb' : V.heap.size ≤ bi') (hs : RefAt W1 br' bi' (F.n Nr) m)
    (hown : W3.ownsRow w.heap.size 35 1 vr' (Nr + 1) (ptrsL F.br Nr ++ [.pointer (some ⟨br', 0, none⟩)])) (hg : (W1.alloc o).grownBy W3 vr.ownBlock) :
    MAt w (W3.setCell ⟨Bw, 1, none⟩ vr') Bw Nx (Nr + 1) vx vr' { F with br := upd F.br Nr br', bi := upd F.bi Nr bi', mr := upd F.mr Nr m } Bo kind A B sl gL l := by
  have h2 := (h.1.keep hb).keep ((Below.refl _ W1).alloc (Nat.le_refl _) o)
  exact ⟨h.1.pushR hlt hb hb' hs hown hg, pushed_other h2.inv.rs hg h2.inv.head ((h.2.keep hb).keep ((Below.refl _ W1).alloc (Nat.le_refl _) o)) (by decide) (by decide)⟩

theorem mat_of {c : Nat} (hlen : l.length ≤ 17592186043904) (h : MAt w V Bw Nx Nr vx vr F Bo kind A B sl gL l) (z : Int) :
    Calls Tryd.prog 10 #[.int .i64 z, .slice (some ⟨gL, 0, none⟩) l.length c] V fun e w' => ∃ b', e = .returned (.pointer (some ⟨b', 0, none⟩)) ∧ V.heap.size ≤ b' ∧ SetM w' (some ⟨b', 0, none⟩) (clampN z) (addS (clampN z) 0 l).1 ∧ Below V.heap.size V w' := by
  refine (of_any z _ c l V h.2.ints (by omega)).mono ?_
  rintro e w' ⟨rfl, h1, h2⟩
  exact ⟨_, rfl, Nat.le_refl _, h1, h2⟩

theorem mat_rof {c : Nat} (hl : IntsAt w a l) (hlen : l.length ≤ 17592186043904) (h : MAt w V Bw Nx Nr vx vr F Bo kind A B sl gL l) (z : Int) (hn : F.n Nr = clampN z) :
    Calls Tryd.prog 11 #[.int .i64 z, .slice a l.length c] V fun e w' => ∃ br' bi', e = .returned (.pointer (some ⟨br', 0, none⟩)) ∧ V.heap.size ≤ bi' ∧ RefAt w' br' bi' (F.n Nr) (addS (clampN z) 0 l).1 ∧ Below V.heap.size V w' := by
  rw [hn]
  refine (refOf_any z a c l V (hl.below h.1.inv.bel) (by omega)).mono ?_
  rintro e w' ⟨br', rfl, _, h1, h2⟩
  exact ⟨br', _, rfl, Nat.le_refl _, h1, h2⟩

theorem mat_whole {capA : Nat} (hl : IntsAt w a l) (hlen : l.length ≤ 17592186043904) (h : MAt w V Bw Nx Nr vx vr F Bo kind A B sl gL l) :
    Calls Tryd.prog 29 #[.slice (some ⟨gL, 0, none⟩) (l.length + 8) capA, .slice a l.length cap] V fun e w' => e = .returned (.bool true) ∧ MAt w w' Bw Nx Nr vx vr F Bo kind A B sl gL l := by
  refine (whole_any gL capA a cap l V h.2 (hl.below h.1.inv.bel) (by omega)).mono ?_
  rintro e w' ⟨rfl, k, rfl⟩
  exact ⟨rfl, h.1.drewN k, h.2⟩

theorem mat_is (h : MAt w V Bw Nx Nr vx vr F Bo kind A B sl gL l) {i j : Nat} (hi : i < Nx) (hj : j < Nr) (hT : Tab w) (hw0 : 0 < w.heap.size) (hn : F.n j = F.n i) (hm : F.mr j = F.mx i) :
    Calls Tryd.prog 9 #[.pointer (some ⟨F.b i, 0, none⟩), .pointer (some ⟨F.br j, 0, none⟩)] V fun e w' => e = .returned (.bool true) ∧ MAt w w' Bw Nx Nr vx vr F Bo kind A B sl gL l := by
  have h2 := (h.1.inv.refs j hj).2
  rw [hn, hm] at h2
  refine (is_any (F.b i) (F.br j) (F.bi j) (F.n i) (F.mx i) V ⟨Below.refl _ _, (h.1.inv.sets i hi).2, h2, hT.below h.1.inv.bel hw0⟩).mono ?_
  rintro e w' ⟨rfl, hb⟩
  exact ⟨rfl, h.1.keep hb, h.2.keep hb⟩
end

set_option maxRecDepth 100000 in
set_option maxHeartbeats 4000000 in
theorem play_make (w W : World) (Bw N : Nat) (ax ar : Option Addr) (cx cr : Nat) (F : Fam) (kind A B : Int) (a : Option Addr) (cap : Nat)
    (hI : PInv w W Bw N N (.slice ax N cx) (.slice ar N cr) F) (hS : Same N F) (hk : kind.tmod 8 = 0 ∨ (kind.tmod 8 == 0) = false ∧ N = 0) (hlt : N < 64)
    (l : List Int) (hl : IntsAt w a l) (hlen : l.length ≤ 17592186043904) (hT : Tab w) (hw0 : 0 < w.heap.size) :
    Calls Tryd.prog 8 #[.pointer (some ⟨Bw, 0, none⟩), .agg #[.int .i64 kind, .int .i64 A, .int .i64 B, .slice a l.length cap]] W fun e w' => e = .returned (.bool true) ∧ ∃ ax' ar' cx' cr' F', PInv w w' Bw (N + 1) (N + 1) (.slice ax' (N + 1) cx') (.slice ar' (N + 1) cr') F' ∧ Same (N + 1) F' := by
  have hcx := hI.xcell
  have hBlt := hI.blt
  obtain ⟨i0, hi0, hz0, hz1, hz2⟩ := info_parts info34
  obtain ⟨j0, hj0, hy0, hy1, hy2⟩ := info_parts info35
  have E10 : Hid (Enters Tryd.prog 10) := enters_of Tryd.func10 (by kernel_rfl) rfl
  have E11 : Hid (Enters Tryd.prog 11) := enters_of Tryd.func11 (by kernel_rfl) rfl
  have HI : Hid (PInv w W Bw N N (.slice ax N cx) (.slice ar N cr) F) := hI
  have HS : Hid (Same N F) := hS
  have HL : Hid (IntsAt w a l) := hl
  have HT : Hid (Tab w) := hT
  clear hI hS hl hT
  rcases hk with hk | ⟨hk, hk0⟩
  · go_enter Tryd.func8, Tryd.ntmps8
    go_wp2_with fail
    have hVb : Below W.heap.size W (W.alloc (.cells #[.int .i64 kind, .int .i64 A, .int .i64 B, .slice a l.length cap] 31)) := (Below.refl _ W).alloc (Nat.le_refl _) _
    have hbox : (W.alloc (.cells #[.int .i64 kind, .int .i64 A, .int .i64 B, .slice a l.length cap] 31)).heap[W.heap.size]? = some (.cells #[.int .i64 kind, .int .i64 A, .int .i64 B, .slice a l.length cap] 31 (0, 0)) := heap_alloc_last W _
    have HQ0 : Hid (QAt w (W.alloc (.cells #[.int .i64 kind, .int .i64 A, .int .i64 B, .slice a l.length cap] 31)) Bw N N (.slice ax N cx) (.slice ar N cr) F W.heap.size kind A B (.slice a l.length cap)) := ⟨HI.out.keep hVb, hbox⟩
    clear hVb hbox hcx HI
    generalize W.alloc (.cells #[.int .i64 kind, .int .i64 A, .int .i64 B, .slice a l.length cap] 31) = V at *
    generalize W.heap.size = Bo at *
    refine (mat_lent HL.out hlen HQ0.out).mono ?_
    rintro e w1 ⟨rfl, hQ1⟩
    have HQ : Hid (MAt w w1.drew Bw N N (.slice ax N cx) (.slice ar N cr) F Bo kind A B (.slice a l.length cap) V.heap.size l) := hQ1.drew
    clear HQ0 hQ1
    generalize V.heap.size = gL at *
    have hc0 : w1.drew.cell? ⟨Bw, 0, none⟩ = some (.slice ax N cx) := HQ.out.1.inv.xcell
    have hc1 : w1.drew.cell? ⟨Bo, 1, none⟩ = some (.int .i64 A) := HQ.out.1.a1
    have HOF : Hid (Calls Tryd.prog 10 #[.int .i64 A, .slice (some ⟨gL, 0, none⟩) l.length (l.length + 8)] w1.drew fun e w' => ∃ b', e = .returned (.pointer (some ⟨b', 0, none⟩)) ∧ w1.drew.heap.size ≤ b' ∧ SetM w' (some ⟨b', 0, none⟩) (clampN A) (addS (clampN A) 0 l).1 ∧ Below w1.drew.heap.size w1.drew w') := mat_of hlen HQ.out A
    go_wp2_with fail
    go_cut [] from 40 to 52 (fun wx => ∃ b' g2 c2, MAt w wx Bw (N + 1) N (.slice (some ⟨g2, 0, none⟩) (N + 1) c2) (.slice ar N cr) { F with b := upd F.b N b', n := upd F.n N (clampN A), mx := upd F.mx N (addS (clampN A) 0 l).1 } Bo kind A B (.slice a l.length cap) gL l)
    case first =>
      go_region_law (first
        | (refine step_call rfl 10 #[.tmp 46, .tmp 47] #[3, 29] rfl #[.int .i64 A, .slice (some ⟨gL, 0, none⟩) l.length (l.length + 8)] (by simp [Act.eval]) E10.out HOF.out ?_; rintro e w2 ⟨b', rfl, hlo, hset, hb⟩; refine ⟨_, rfl, ?_⟩; have hcw := (HQ.out.1.keep hb).inv.xcell; have hownX := (HQ.out.1.keep hb).inv.xs; have hcw2 : ∀ o, (w2.alloc o).cell? ⟨Bw, 0, none⟩ = some (.slice ax N cx) := (fun o => ((HQ.out.1.keep hb).keep ((Below.refl _ w2).alloc (Nat.le_refl _) o)).inv.xcell); have hb2 := (HQ.out.1.keep hb).inv.bel.size)
        | (refine step_append_own rfl (.tmp 44) (.tmp 49) 25 rfl w.heap.size 34 i0 (.pointer none) 1 8 Tryd.underlying25 hi0 hz0 hz1 hz2 rfl (by decide) _ _ _ (by simp [Act.eval]) (hownX.alloc _) ⟨w2.heap.size, 0, none⟩ 1 1 [.pointer (some ⟨b', 0, none⟩)] (by simp [Act.eval]) rfl (cell_one_new _ _ _) (by simp [Value.oneCell']) (by unfold maxLen; omega) (by omega) (by simp; omega) ?_; intro v' w3 hown3 hgrow3; obtain ⟨g2, c2, rfl⟩ := own_form hown3; have hm := HQ.out.1.midX hb hgrow3; have hm1 := hm.1; have hm2 := hm.2))
      all_goals go_wp2_with fail
      all_goals go_meet
      all_goals exact ⟨b', _, _, HQ.out.pushX hlt (Nat.le_refl _) hb hlo hset hown3 hgrow3⟩
    case rest =>
      obtain ⟨b', g2, c2, hQ1⟩ := hcut
      clear hc0 hc1 HQ HOF
      have HQ1 : Hid (MAt w wc.drew Bw (N + 1) N (.slice (some ⟨g2, 0, none⟩) (N + 1) c2) (.slice ar N cr) { F with b := upd F.b N b', n := upd F.n N (clampN A), mx := upd F.mx N (addS (clampN A) 0 l).1 } Bo kind A B (.slice a l.length cap) gL l) := hQ1.drew
      have hc0 : wc.drew.cell? ⟨Bw, 1, none⟩ = some (.slice ar N cr) := HQ1.out.1.inv.rcell
      have hc1 : wc.drew.cell? ⟨Bo, 1, none⟩ = some (.int .i64 A) := HQ1.out.1.a1
      have hc3 : wc.drew.cell? ⟨Bo, 3, none⟩ = some (.slice a l.length cap) := HQ1.out.1.a3
      have HRC : Hid (Calls Tryd.prog 11 #[.int .i64 A, .slice a l.length cap] wc.drew fun e w' => ∃ br' bi', e = .returned (.pointer (some ⟨br', 0, none⟩)) ∧ wc.drew.heap.size ≤ bi' ∧ RefAt w' br' bi' (upd F.n N (clampN A) N) (addS (clampN A) 0 l).1 ∧ Below wc.drew.heap.size wc.drew w') := mat_rof HL.out hlen HQ1.out A (upd_same _ _ _)
      clear hQ1
      go_wp2_with fail
      go_cut [] from 53 to 66 (fun wx => ∃ br' bi' g3 c3, MAt w wx Bw (N + 1) (N + 1) (.slice (some ⟨g2, 0, none⟩) (N + 1) c2) (.slice (some ⟨g3, 0, none⟩) (N + 1) c3) { F with b := upd F.b N b', n := upd F.n N (clampN A), mx := upd F.mx N (addS (clampN A) 0 l).1, br := upd F.br N br', bi := upd F.bi N bi', mr := upd F.mr N (addS (clampN A) 0 l).1 } Bo kind A B (.slice a l.length cap) gL l)
      case first =>
        go_region_law (first
          | (refine step_call rfl 11 #[.tmp 59, .tmp 61] #[3, 29] rfl #[.int .i64 A, .slice a l.length cap] (by simp [Act.eval]) E11.out HRC.out ?_; rintro e w2 ⟨br', bi', rfl, hlo, hrow, hb⟩; refine ⟨_, rfl, ?_⟩; have hcw := (HQ1.out.1.keep hb).inv.rcell; have hownR := (HQ1.out.1.keep hb).inv.rs; have hcw2 : ∀ o, (w2.alloc o).cell? ⟨Bw, 1, none⟩ = some (.slice ar N cr) := (fun o => ((HQ1.out.1.keep hb).keep ((Below.refl _ w2).alloc (Nat.le_refl _) o)).inv.rcell); have hb2 := (HQ1.out.1.keep hb).inv.bel.size)
          | (refine step_append_own rfl (.tmp 57) (.tmp 63) 26 rfl w.heap.size 35 j0 (.pointer none) 1 8 Tryd.underlying26 hj0 hy0 hy1 hy2 rfl (by decide) _ _ _ (by simp [Act.eval]) (hownR.alloc _) ⟨w2.heap.size, 0, none⟩ 1 1 [.pointer (some ⟨br', 0, none⟩)] (by simp [Act.eval]) rfl (cell_one_new _ _ _) (by simp [Value.oneCell']) (by unfold maxLen; omega) (by omega) (by simp; omega) ?_; intro v' w3 hown3 hgrow3; obtain ⟨g3, c3, rfl⟩ := own_form hown3; have hm := HQ1.out.1.midR hb hgrow3; have hm1 := hm.1; have hm2 := hm.2))
        all_goals go_wp2_with fail
        all_goals go_meet
        all_goals exact ⟨br', bi', _, _, HQ1.out.pushR hlt hb hlo hrow hown3 hgrow3⟩
      case rest =>
        obtain ⟨br', bi', g3, c3, hQ2⟩ := hcut
        clear hc0 hc1 hc3 HQ1 HRC
        obtain ⟨F2, hF2⟩ : ∃ F2 : Fam, F2 = { F with b := upd F.b N b', n := upd F.n N (clampN A), mx := upd F.mx N (addS (clampN A) 0 l).1, br := upd F.br N br', bi := upd F.bi N bi', mr := upd F.mr N (addS (clampN A) 0 l).1 } := ⟨_, rfl⟩
        rw [← hF2] at hQ2
        have f1 : F2.b N = b' := by rw [hF2]; exact upd_same _ _ _
        have f2 : F2.br N = br' := by rw [hF2]; exact upd_same _ _ _
        have f4 : Same (N + 1) F2 := by
          intro j hj
          rw [hF2]
          show upd F.mx N (addS (clampN A) 0 l).1 j = upd F.mr N (addS (clampN A) 0 l).1 j
          by_cases e : j = N
          · rw [e, upd_same, upd_same]
          · rw [upd_other _ e, upd_other _ e]; exact HS.out j (by omega)
        have f5 : F2.mr N = F2.mx N := (f4 N (by omega)).symm
        have HF : Hid (Same (N + 1) F2) := f4
        have HIS : Hid (∀ V, MAt w V Bw (N + 1) (N + 1) (.slice (some ⟨g2, 0, none⟩) (N + 1) c2) (.slice (some ⟨g3, 0, none⟩) (N + 1) c3) F2 Bo kind A B (.slice a l.length cap) gL l → Calls Tryd.prog 9 #[.pointer (some ⟨b', 0, none⟩), .pointer (some ⟨br', 0, none⟩)] V fun e w' => e = .returned (.bool true) ∧ MAt w w' Bw (N + 1) (N + 1) (.slice (some ⟨g2, 0, none⟩) (N + 1) c2) (.slice (some ⟨g3, 0, none⟩) (N + 1) c3) F2 Bo kind A B (.slice a l.length cap) gL l) := fun V h => by
          have := mat_is h (i := N) (j := N) (by omega) (by omega) HT.out hw0 rfl f5
          rwa [f1, f2] at this
        haveI hne : Nonempty (WBox (fun v => MAt w v Bw (N + 1) (N + 1) (.slice (some ⟨g2, 0, none⟩) (N + 1) c2) (.slice (some ⟨g3, 0, none⟩) (N + 1) c3) F2 Bo kind A B (.slice a l.length cap) gL l)) := ⟨⟨_, hQ2.drew⟩⟩
        have k1 : ∀ s : WBox (fun v => MAt w v Bw (N + 1) (N + 1) (.slice (some ⟨g2, 0, none⟩) (N + 1) c2) (.slice (some ⟨g3, 0, none⟩) (N + 1) c3) F2 Bo kind A B (.slice a l.length cap) gL l), s.w.cell? ⟨g2, N, none⟩ = some (.pointer (some ⟨b', 0, none⟩)) := fun s => by
          have := s.ok.1.xat N (by omega)
          rwa [f1] at this
        have k2 : ∀ s : WBox (fun v => MAt w v Bw (N + 1) (N + 1) (.slice (some ⟨g2, 0, none⟩) (N + 1) c2) (.slice (some ⟨g3, 0, none⟩) (N + 1) c3) F2 Bo kind A B (.slice a l.length cap) gL l), s.w.cell? ⟨g3, N, none⟩ = some (.pointer (some ⟨br', 0, none⟩)) := fun s => by
          have := s.ok.1.rat N (by omega)
          rwa [f2] at this
        have k3 := fun s : WBox (fun v => MAt w v Bw (N + 1) (N + 1) (.slice (some ⟨g2, 0, none⟩) (N + 1) c2) (.slice (some ⟨g3, 0, none⟩) (N + 1) c3) F2 Bo kind A B (.slice a l.length cap) gL l) => s.ok.1.inv.xcell
        have k4 := fun s : WBox (fun v => MAt w v Bw (N + 1) (N + 1) (.slice (some ⟨g2, 0, none⟩) (N + 1) c2) (.slice (some ⟨g3, 0, none⟩) (N + 1) c3) F2 Bo kind A B (.slice a l.length cap) gL l) => s.ok.1.inv.rcell
        have k5 := fun s : WBox (fun v => MAt w v Bw (N + 1) (N + 1) (.slice (some ⟨g2, 0, none⟩) (N + 1) c2) (.slice (some ⟨g3, 0, none⟩) (N + 1) c3) F2 Bo kind A B (.slice a l.length cap) gL l) => s.ok.1.a3
        clear hF2 f1 f2 f4 f5
        go_wp2_with fail
        refine wp_region_class (p := fun v => MAt w v Bw (N + 1) (N + 1) (.slice (some ⟨g2, 0, none⟩) (N + 1) c2) (.slice (some ⟨g3, 0, none⟩) (N + 1) c3) F2 Bo kind A B (.slice a l.length cap) gL l) (by kernel_rfl) (by kernel_rfl) hQ2.drew ?_
        repeat (go_big_quiet_step (first
          | (go_at_call 29; rename_i s; with_reducible exact calls_class (mat_whole HL.out hlen s.ok))
          | (go_at_call 9; rename_i s; with_reducible exact calls_class (HIS.out _ s.ok))))
        refine wpQuiet_nil ?_
        rintro _ ⟨s, rfl⟩
        go_wp2_with fail
        go_ret
        exact ⟨rfl, _, _, _, _, F2, s.ok.1.inv, HF.out⟩
  · have hkb : ((N : Int) == 0) = true := by rw [beq_iff_eq]; omega
    clear hk0
    go_enter Tryd.func8, Tryd.ntmps8
    go_wp2_with fail
    have hVb : Below W.heap.size W (W.alloc (.cells #[.int .i64 kind, .int .i64 A, .int .i64 B, .slice a l.length cap] 31)) := (Below.refl _ W).alloc (Nat.le_refl _) _
    have hbox : (W.alloc (.cells #[.int .i64 kind, .int .i64 A, .int .i64 B, .slice a l.length cap] 31)).heap[W.heap.size]? = some (.cells #[.int .i64 kind, .int .i64 A, .int .i64 B, .slice a l.length cap] 31 (0, 0)) := heap_alloc_last W _
    have HQ0 : Hid (QAt w (W.alloc (.cells #[.int .i64 kind, .int .i64 A, .int .i64 B, .slice a l.length cap] 31)) Bw N N (.slice ax N cx) (.slice ar N cr) F W.heap.size kind A B (.slice a l.length cap)) := ⟨HI.out.keep hVb, hbox⟩
    clear hVb hbox hcx HI
    generalize W.alloc (.cells #[.int .i64 kind, .int .i64 A, .int .i64 B, .slice a l.length cap] 31) = V at *
    generalize W.heap.size = Bo at *
    refine (mat_lent HL.out hlen HQ0.out).mono ?_
    rintro e w1 ⟨rfl, hQ1⟩
    have HQ : Hid (MAt w w1.drew Bw N N (.slice ax N cx) (.slice ar N cr) F Bo kind A B (.slice a l.length cap) V.heap.size l) := hQ1.drew
    clear HQ0 hQ1
    generalize V.heap.size = gL at *
    have hc0 : w1.drew.cell? ⟨Bw, 0, none⟩ = some (.slice ax N cx) := HQ.out.1.inv.xcell
    have hc1 : w1.drew.cell? ⟨Bo, 1, none⟩ = some (.int .i64 A) := HQ.out.1.a1
    have HOF : Hid (Calls Tryd.prog 10 #[.int .i64 A, .slice (some ⟨gL, 0, none⟩) l.length (l.length + 8)] w1.drew fun e w' => ∃ b', e = .returned (.pointer (some ⟨b', 0, none⟩)) ∧ w1.drew.heap.size ≤ b' ∧ SetM w' (some ⟨b', 0, none⟩) (clampN A) (addS (clampN A) 0 l).1 ∧ Below w1.drew.heap.size w1.drew w') := mat_of hlen HQ.out A
    go_wp2_with fail
    go_cut [] from 40 to 52 (fun wx => ∃ b' g2 c2, MAt w wx Bw (N + 1) N (.slice (some ⟨g2, 0, none⟩) (N + 1) c2) (.slice ar N cr) { F with b := upd F.b N b', n := upd F.n N (clampN A), mx := upd F.mx N (addS (clampN A) 0 l).1 } Bo kind A B (.slice a l.length cap) gL l)
    case first =>
      go_region_law (first
        | (refine step_call rfl 10 #[.tmp 46, .tmp 47] #[3, 29] rfl #[.int .i64 A, .slice (some ⟨gL, 0, none⟩) l.length (l.length + 8)] (by simp [Act.eval]) E10.out HOF.out ?_; rintro e w2 ⟨b', rfl, hlo, hset, hb⟩; refine ⟨_, rfl, ?_⟩; have hcw := (HQ.out.1.keep hb).inv.xcell; have hownX := (HQ.out.1.keep hb).inv.xs; have hcw2 : ∀ o, (w2.alloc o).cell? ⟨Bw, 0, none⟩ = some (.slice ax N cx) := (fun o => ((HQ.out.1.keep hb).keep ((Below.refl _ w2).alloc (Nat.le_refl _) o)).inv.xcell); have hb2 := (HQ.out.1.keep hb).inv.bel.size)
        | (refine step_append_own rfl (.tmp 44) (.tmp 49) 25 rfl w.heap.size 34 i0 (.pointer none) 1 8 Tryd.underlying25 hi0 hz0 hz1 hz2 rfl (by decide) _ _ _ (by simp [Act.eval]) (hownX.alloc _) ⟨w2.heap.size, 0, none⟩ 1 1 [.pointer (some ⟨b', 0, none⟩)] (by simp [Act.eval]) rfl (cell_one_new _ _ _) (by simp [Value.oneCell']) (by unfold maxLen; omega) (by omega) (by simp; omega) ?_; intro v' w3 hown3 hgrow3; obtain ⟨g2, c2, rfl⟩ := own_form hown3; have hm := HQ.out.1.midX hb hgrow3; have hm1 := hm.1; have hm2 := hm.2))
      all_goals go_wp2_with fail
      all_goals go_meet
      all_goals exact ⟨b', _, _, HQ.out.pushX hlt (Nat.le_refl _) hb hlo hset hown3 hgrow3⟩
    case rest =>
      obtain ⟨b', g2, c2, hQ1⟩ := hcut
      clear hc0 hc1 HQ HOF
      have HQ1 : Hid (MAt w wc.drew Bw (N + 1) N (.slice (some ⟨g2, 0, none⟩) (N + 1) c2) (.slice ar N cr) { F with b := upd F.b N b', n := upd F.n N (clampN A), mx := upd F.mx N (addS (clampN A) 0 l).1 } Bo kind A B (.slice a l.length cap) gL l) := hQ1.drew
      have hc0 : wc.drew.cell? ⟨Bw, 1, none⟩ = some (.slice ar N cr) := HQ1.out.1.inv.rcell
      have hc1 : wc.drew.cell? ⟨Bo, 1, none⟩ = some (.int .i64 A) := HQ1.out.1.a1
      have hc3 : wc.drew.cell? ⟨Bo, 3, none⟩ = some (.slice a l.length cap) := HQ1.out.1.a3
      have HRC : Hid (Calls Tryd.prog 11 #[.int .i64 A, .slice a l.length cap] wc.drew fun e w' => ∃ br' bi', e = .returned (.pointer (some ⟨br', 0, none⟩)) ∧ wc.drew.heap.size ≤ bi' ∧ RefAt w' br' bi' (upd F.n N (clampN A) N) (addS (clampN A) 0 l).1 ∧ Below wc.drew.heap.size wc.drew w') := mat_rof HL.out hlen HQ1.out A (upd_same _ _ _)
      clear hQ1
      go_wp2_with fail
      go_cut [] from 53 to 66 (fun wx => ∃ br' bi' g3 c3, MAt w wx Bw (N + 1) (N + 1) (.slice (some ⟨g2, 0, none⟩) (N + 1) c2) (.slice (some ⟨g3, 0, none⟩) (N + 1) c3) { F with b := upd F.b N b', n := upd F.n N (clampN A), mx := upd F.mx N (addS (clampN A) 0 l).1, br := upd F.br N br', bi := upd F.bi N bi', mr := upd F.mr N (addS (clampN A) 0 l).1 } Bo kind A B (.slice a l.length cap) gL l)
      case first =>
        go_region_law (first
          | (refine step_call rfl 11 #[.tmp 59, .tmp 61] #[3, 29] rfl #[.int .i64 A, .slice a l.length cap] (by simp [Act.eval]) E11.out HRC.out ?_; rintro e w2 ⟨br', bi', rfl, hlo, hrow, hb⟩; refine ⟨_, rfl, ?_⟩; have hcw := (HQ1.out.1.keep hb).inv.rcell; have hownR := (HQ1.out.1.keep hb).inv.rs; have hcw2 : ∀ o, (w2.alloc o).cell? ⟨Bw, 1, none⟩ = some (.slice ar N cr) := (fun o => ((HQ1.out.1.keep hb).keep ((Below.refl _ w2).alloc (Nat.le_refl _) o)).inv.rcell); have hb2 := (HQ1.out.1.keep hb).inv.bel.size)
          | (refine step_append_own rfl (.tmp 57) (.tmp 63) 26 rfl w.heap.size 35 j0 (.pointer none) 1 8 Tryd.underlying26 hj0 hy0 hy1 hy2 rfl (by decide) _ _ _ (by simp [Act.eval]) (hownR.alloc _) ⟨w2.heap.size, 0, none⟩ 1 1 [.pointer (some ⟨br', 0, none⟩)] (by simp [Act.eval]) rfl (cell_one_new _ _ _) (by simp [Value.oneCell']) (by unfold maxLen; omega) (by omega) (by simp; omega) ?_; intro v' w3 hown3 hgrow3; obtain ⟨g3, c3, rfl⟩ := own_form hown3; have hm := HQ1.out.1.midR hb hgrow3; have hm1 := hm.1; have hm2 := hm.2))
        all_goals go_wp2_with fail
        all_goals go_meet
        all_goals exact ⟨br', bi', _, _, HQ1.out.pushR hlt hb hlo hrow hown3 hgrow3⟩
      case rest =>
        obtain ⟨br', bi', g3, c3, hQ2⟩ := hcut
        clear hc0 hc1 hc3 HQ1 HRC
        obtain ⟨F2, hF2⟩ : ∃ F2 : Fam, F2 = { F with b := upd F.b N b', n := upd F.n N (clampN A), mx := upd F.mx N (addS (clampN A) 0 l).1, br := upd F.br N br', bi := upd F.bi N bi', mr := upd F.mr N (addS (clampN A) 0 l).1 } := ⟨_, rfl⟩
        rw [← hF2] at hQ2
        have f1 : F2.b N = b' := by rw [hF2]; exact upd_same _ _ _
        have f2 : F2.br N = br' := by rw [hF2]; exact upd_same _ _ _
        have f4 : Same (N + 1) F2 := by
          intro j hj
          rw [hF2]
          show upd F.mx N (addS (clampN A) 0 l).1 j = upd F.mr N (addS (clampN A) 0 l).1 j
          by_cases e : j = N
          · rw [e, upd_same, upd_same]
          · rw [upd_other _ e, upd_other _ e]; exact HS.out j (by omega)
        have f5 : F2.mr N = F2.mx N := (f4 N (by omega)).symm
        have HF : Hid (Same (N + 1) F2) := f4
        have HIS : Hid (∀ V, MAt w V Bw (N + 1) (N + 1) (.slice (some ⟨g2, 0, none⟩) (N + 1) c2) (.slice (some ⟨g3, 0, none⟩) (N + 1) c3) F2 Bo kind A B (.slice a l.length cap) gL l → Calls Tryd.prog 9 #[.pointer (some ⟨b', 0, none⟩), .pointer (some ⟨br', 0, none⟩)] V fun e w' => e = .returned (.bool true) ∧ MAt w w' Bw (N + 1) (N + 1) (.slice (some ⟨g2, 0, none⟩) (N + 1) c2) (.slice (some ⟨g3, 0, none⟩) (N + 1) c3) F2 Bo kind A B (.slice a l.length cap) gL l) := fun V h => by
          have := mat_is h (i := N) (j := N) (by omega) (by omega) HT.out hw0 rfl f5
          rwa [f1, f2] at this
        haveI hne : Nonempty (WBox (fun v => MAt w v Bw (N + 1) (N + 1) (.slice (some ⟨g2, 0, none⟩) (N + 1) c2) (.slice (some ⟨g3, 0, none⟩) (N + 1) c3) F2 Bo kind A B (.slice a l.length cap) gL l)) := ⟨⟨_, hQ2.drew⟩⟩
        have k1 : ∀ s : WBox (fun v => MAt w v Bw (N + 1) (N + 1) (.slice (some ⟨g2, 0, none⟩) (N + 1) c2) (.slice (some ⟨g3, 0, none⟩) (N + 1) c3) F2 Bo kind A B (.slice a l.length cap) gL l), s.w.cell? ⟨g2, N, none⟩ = some (.pointer (some ⟨b', 0, none⟩)) := fun s => by
          have := s.ok.1.xat N (by omega)
          rwa [f1] at this
        have k2 : ∀ s : WBox (fun v => MAt w v Bw (N + 1) (N + 1) (.slice (some ⟨g2, 0, none⟩) (N + 1) c2) (.slice (some ⟨g3, 0, none⟩) (N + 1) c3) F2 Bo kind A B (.slice a l.length cap) gL l), s.w.cell? ⟨g3, N, none⟩ = some (.pointer (some ⟨br', 0, none⟩)) := fun s => by
          have := s.ok.1.rat N (by omega)
          rwa [f2] at this
        have k3 := fun s : WBox (fun v => MAt w v Bw (N + 1) (N + 1) (.slice (some ⟨g2, 0, none⟩) (N + 1) c2) (.slice (some ⟨g3, 0, none⟩) (N + 1) c3) F2 Bo kind A B (.slice a l.length cap) gL l) => s.ok.1.inv.xcell
        have k4 := fun s : WBox (fun v => MAt w v Bw (N + 1) (N + 1) (.slice (some ⟨g2, 0, none⟩) (N + 1) c2) (.slice (some ⟨g3, 0, none⟩) (N + 1) c3) F2 Bo kind A B (.slice a l.length cap) gL l) => s.ok.1.inv.rcell
        have k5 := fun s : WBox (fun v => MAt w v Bw (N + 1) (N + 1) (.slice (some ⟨g2, 0, none⟩) (N + 1) c2) (.slice (some ⟨g3, 0, none⟩) (N + 1) c3) F2 Bo kind A B (.slice a l.length cap) gL l) => s.ok.1.a3
        clear hF2 f1 f2 f4 f5
        go_wp2_with fail
        refine wp_region_class (p := fun v => MAt w v Bw (N + 1) (N + 1) (.slice (some ⟨g2, 0, none⟩) (N + 1) c2) (.slice (some ⟨g3, 0, none⟩) (N + 1) c3) F2 Bo kind A B (.slice a l.length cap) gL l) (by kernel_rfl) (by kernel_rfl) hQ2.drew ?_
        repeat (go_big_quiet_step (first
          | (go_at_call 29; rename_i s; with_reducible exact calls_class (mat_whole HL.out hlen s.ok))
          | (go_at_call 9; rename_i s; with_reducible exact calls_class (HIS.out _ s.ok))))
        refine wpQuiet_nil ?_
        rintro _ ⟨s, rfl⟩
        go_wp2_with fail
        go_ret
        exact ⟨rfl, _, _, _, _, F2, s.ok.1.inv, HF.out⟩

end Go.Proofs.YtkmocjdjdlpphaaDoor
