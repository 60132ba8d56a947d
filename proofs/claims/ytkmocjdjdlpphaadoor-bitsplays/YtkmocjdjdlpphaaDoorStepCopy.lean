/-
  A step of a script: Copy.
-/
import Derived.Test.YtkmocjdjdlpphaaDoorStepPush
import Derived.Deep.CutRange
namespace Go.Proofs.YtkmocjdjdlpphaaDoor
open Go.RowKit Go.Shelf

attribute [local go_sem] Oper.semAt_some

set_option maxRecDepth 100000 in
set_option maxHeartbeats 4000000 in
theorem play_copy (t : Int) (ht : t = 6 ∨ t = -6) (w W : World) (Bw N : Nat) (ax ar : Option Addr) (cx cr : Nat) (F : Fam) (kind A B : Int) (a : Option Addr) (cap i j : Nat)
    (hI : PInv w W Bw N N (.slice ax N cx) (.slice ar N cr) F) (hS : Same N F) (hN : 0 < N) (hk : kind.tmod 8 = t)
    (hpi : ∀ wr, Calls Tryd.prog 17 #[.int .i64 A, .int .i64 (N : Int)] wr fun e w' => e = .returned (.int .i64 (i : Nat)) ∧ w' = wr) (hpj : ∀ wr, Calls Tryd.prog 17 #[.int .i64 B, .int .i64 (N : Int)] wr fun e w' => e = .returned (.int .i64 (j : Nat)) ∧ w' = wr)
    (hi : i < N) (_hj : j < N) (hlt : N < 64)
    (l : List Int) (hT : Tab w) (hw0 : 0 < w.heap.size) :
    Calls Tryd.prog 8 #[.pointer (some ⟨Bw, 0, none⟩), .agg #[.int .i64 kind, .int .i64 A, .int .i64 B, .slice a l.length cap]] W fun e w' => e = .returned (.bool true) ∧ ∃ ax' ar' cx' cr' F', PInv w w' Bw (N + 1) (N + 1) (.slice ax' (N + 1) cx') (.slice ar' (N + 1) cr') F' ∧ Same (N + 1) F' := by
  have hle := hI.le.1
  have hcx := hI.xcell
  have hcr := hI.rcell
  have hBlt := hI.blt
  obtain ⟨ax', cx', ex, hxs⟩ := hI.xform
  simp only [Value.slice.injEq, true_and] at ex
  obtain ⟨rfl, rfl⟩ := ex
  obtain ⟨ar', cr', er, hrs⟩ := hI.rform
  simp only [Value.slice.injEq, true_and] at er
  obtain ⟨rfl, rfl⟩ := er
  obtain ⟨g, rfl, hcg⟩ := hxs i hi
  obtain ⟨g', rfl, hcg'⟩ := hrs i hi
  have HI : Hid (PInv w W Bw N N (.slice (some ⟨g, 0, none⟩) N cx) (.slice (some ⟨g', 0, none⟩) N cr) F) := hI
  have HS : Hid (Same N F) := hS
  have HPI : Hid (∀ wr, Calls Tryd.prog 17 #[.int .i64 A, .int .i64 (N : Int)] wr fun e w' => e = .returned (.int .i64 (i : Nat)) ∧ w' = wr) := hpi
  have HPJ : Hid (∀ wr, Calls Tryd.prog 17 #[.int .i64 B, .int .i64 (N : Int)] wr fun e w' => e = .returned (.int .i64 (j : Nat)) ∧ w' = wr) := hpj
  have HT : Hid (Tab w) := hT
  clear hI hS hpi hpj hxs hrs hT
  obtain ⟨i0, hi0, hz0, hz1, hz2⟩ := info_parts info34
  obtain ⟨j0, hj0, hy0, hy1, hy2⟩ := info_parts info35
  have hN0 : ((N : Int) == 0) = false := by rw [beq_eq_false_iff_ne]; omega
  have E21 : Hid (Enters Tryd.prog 21) := enters_of Tryd.func21 (by kernel_rfl) rfl
  have E34 : Hid (Enters Tryd.prog 34) := enters_of Tryd.func34 (by kernel_rfl) rfl
  rcases ht with rfl | rfl
  · go_enter Tryd.func8, Tryd.ntmps8
    go_wp2_with fail
    have hVb : Below W.heap.size W (W.alloc (.cells #[.int .i64 kind, .int .i64 A, .int .i64 B, .slice a l.length cap] 31)) := (Below.refl _ W).alloc (Nat.le_refl _) _
    have hbox : (W.alloc (.cells #[.int .i64 kind, .int .i64 A, .int .i64 B, .slice a l.length cap] 31)).heap[W.heap.size]? = some (.cells #[.int .i64 kind, .int .i64 A, .int .i64 B, .slice a l.length cap] 31 (0, 0)) := heap_alloc_last W _
    have HV : Hid (PInv w (W.alloc (.cells #[.int .i64 kind, .int .i64 A, .int .i64 B, .slice a l.length cap] 31)) Bw N N (.slice (some ⟨g, 0, none⟩) N cx) (.slice (some ⟨g', 0, none⟩) N cr) F) := HI.out.keep hVb
    have hcg1 : (W.alloc (.cells #[.int .i64 kind, .int .i64 A, .int .i64 B, .slice a l.length cap] 31)).cell? ⟨g, i, none⟩ = some (.pointer (some ⟨F.b i, 0, none⟩)) := (by rw [hVb.cell (by exact World.block_lt_of_cell? W _ hcg)]; exact hcg)
    have hcg2 : (W.alloc (.cells #[.int .i64 kind, .int .i64 A, .int .i64 B, .slice a l.length cap] 31)).cell? ⟨g', i, none⟩ = some (.pointer (some ⟨F.br i, 0, none⟩)) := (by rw [hVb.cell (by exact World.block_lt_of_cell? W _ hcg')]; exact hcg')
    have hcx1 := HV.out.xcell
    have hcr1 := HV.out.rcell
    have HBOX : Hid ((W.alloc (.cells #[.int .i64 kind, .int .i64 A, .int .i64 B, .slice a l.length cap] 31)).heap[W.heap.size]? = some (.cells #[.int .i64 kind, .int .i64 A, .int .i64 B, .slice a l.length cap] 31 (0, 0))) := hbox
    have hb0 := cell_of_row _ _ 0 _ _ _ hbox
    have hb1 := cell_of_row _ _ 1 _ _ _ hbox
    have hb2 := cell_of_row _ _ 2 _ _ _ hbox
    have hb3 := cell_of_row _ _ 3 _ _ _ hbox
    clear hVb hbox hcg hcg' hcx hcr HI
    generalize W.alloc (.cells #[.int .i64 kind, .int .i64 A, .int .i64 B, .slice a l.length cap] 31) = V at *
    generalize W.heap.size = Bo at *
    simp only [List.getElem?_toArray, List.getElem?_cons_zero, List.getElem?_cons_succ] at hb0 hb1 hb2 hb3
    go_quiet (first | (go_at_call 17; with_reducible exact Calls.quiet_of_same (HPI.out _)))
    have HV' : Hid (PInv w (V.drewN nq) Bw N N (.slice (some ⟨g, 0, none⟩) N cx) (.slice (some ⟨g', 0, none⟩) N cr) F) := HV.out.drewN nq
    have HBOX' : Hid ((V.drewN nq).heap[Bo]? = some (.cells #[.int .i64 kind, .int .i64 A, .int .i64 B, .slice a l.length cap] 31 (0, 0))) := HBOX.out
    have hcg1' : (V.drewN nq).cell? ⟨g, i, none⟩ = some (.pointer (some ⟨F.b i, 0, none⟩)) := hcg1
    have hcg2' : (V.drewN nq).cell? ⟨g', i, none⟩ = some (.pointer (some ⟨F.br i, 0, none⟩)) := hcg2
    clear HV HBOX hcg1 hcg2 hcx1 hcr1 hb0 hb1 hb2 hb3
    generalize V.drewN nq = V1 at *
    have hcx1 := HV'.out.xcell
    have hcr1 := HV'.out.rcell
    have hb0 := cell_of_row _ _ 0 _ _ _ HBOX'.out
    have hb1 := cell_of_row _ _ 1 _ _ _ HBOX'.out
    have hb2 := cell_of_row _ _ 2 _ _ _ HBOX'.out
    have hb3 := cell_of_row _ _ 3 _ _ _ HBOX'.out
    simp only [List.getElem?_toArray, List.getElem?_cons_zero, List.getElem?_cons_succ] at hb0 hb1 hb2 hb3
    go_wp2_with fail
    go_quiet (first | (go_at_call 17; with_reducible exact Calls.quiet_of_same (HPJ.out _)))
    have HV2 : Hid (PInv w (V1.drewN nq) Bw N N (.slice (some ⟨g, 0, none⟩) N cx) (.slice (some ⟨g', 0, none⟩) N cr) F) := HV'.out.drewN nq
    have HBOX2 : Hid ((V1.drewN nq).heap[Bo]? = some (.cells #[.int .i64 kind, .int .i64 A, .int .i64 B, .slice a l.length cap] 31 (0, 0))) := HBOX'.out
    have hcg3 : (V1.drewN nq).cell? ⟨g, i, none⟩ = some (.pointer (some ⟨F.b i, 0, none⟩)) := hcg1'
    have hcg4 : (V1.drewN nq).cell? ⟨g', i, none⟩ = some (.pointer (some ⟨F.br i, 0, none⟩)) := hcg2'
    clear HV' HBOX' hcg1' hcg2' hcx1 hcr1 hb0 hb1 hb2 hb3
    generalize V1.drewN nq = V2 at *
    have hcx1 := HV2.out.xcell
    have hcr1 := HV2.out.rcell
    have hb0 := cell_of_row _ _ 0 _ _ _ HBOX2.out
    have hb1 := cell_of_row _ _ 1 _ _ _ HBOX2.out
    have hb2 := cell_of_row _ _ 2 _ _ _ HBOX2.out
    have hb3 := cell_of_row _ _ 3 _ _ _ HBOX2.out
    simp only [List.getElem?_toArray, List.getElem?_cons_zero, List.getElem?_cons_succ] at hb0 hb1 hb2 hb3
    go_wp2_with fail
    have hA : SAt w V2 Bw N g g' cx cr F Bo kind A B (.slice a l.length cap) := ⟨HV2.out, HBOX2.out⟩
    clear HV2 HBOX2 hcg3 hcg4 hcx1 hcr1 hb0 hb1 hb2 hb3
    have hQ : QAt w V2 Bw N N (.slice (some ⟨g, 0, none⟩) N cx) (.slice (some ⟨g', 0, none⟩) N cr) F Bo kind A B (.slice a l.length cap) := ⟨hA.inv, hA.box⟩
    have HQ : Hid (QAt w V2.drew Bw N N (.slice (some ⟨g, 0, none⟩) N cx) (.slice (some ⟨g', 0, none⟩) N cr) F Bo kind A B (.slice a l.length cap)) := hQ.drew
    have hc0 : V2.drew.cell? ⟨Bw, 0, none⟩ = some (.slice (some ⟨g, 0, none⟩) N cx) := HQ.out.inv.xcell
    have HQS : Hid (SetM V2.drew (some ⟨F.b i, 0, none⟩) (F.n i) (F.mx i)) := (HQ.out.inv.sets i hi).2
    clear hA hQ
    go_cut [] from 254 to 264 (fun wx => ∃ b' g2 c2, QAt w wx Bw (N + 1) N (.slice (some ⟨g2, 0, none⟩) (N + 1) c2) (.slice (some ⟨g', 0, none⟩) N cr) { F with b := upd F.b N b', n := upd F.n N (F.n i), mx := upd F.mx N (F.mx i) } Bo kind A B (.slice a l.length cap))
    case first =>
      go_region_law (first
        | (refine step_call rfl 21 #[.tmp 259] #[34] rfl #[.pointer (some ⟨F.b i, 0, none⟩)] (by simp [Act.eval, Act.put]) E21.out (copy_any _ (F.n i) (F.mx i) _ HQS.out) ?_; rintro e w1 ⟨b', rfl, hlo, hrow, hb⟩; refine ⟨_, rfl, ?_⟩; have hcw := (HQ.out.keep hb).inv.xcell; have hownX := (HQ.out.keep hb).inv.xs; have hcw2 : ∀ o, (w1.alloc o).cell? ⟨Bw, 0, none⟩ = some (.slice (some ⟨g, 0, none⟩) N cx) := (fun o => ((HQ.out.keep hb).keep ((Below.refl _ w1).alloc (Nat.le_refl _) o)).inv.xcell); have hb2 := (HQ.out.keep hb).inv.bel.size)
        | (refine step_append_own rfl (.tmp 258) (.tmp 261) 25 rfl w.heap.size 34 i0 (.pointer none) 1 8 Tryd.underlying25 hi0 hz0 hz1 hz2 rfl (by decide) _ _ _ (by simp [Act.eval]) (hownX.alloc _) ⟨w1.heap.size, 0, none⟩ 1 1 [.pointer (some ⟨b', 0, none⟩)] (by simp [Act.eval]) rfl (cell_one_new _ _ _) (by simp [Value.oneCell']) (by unfold maxLen; omega) (by omega) (by simp; omega) ?_; intro v' w3 hown3 hgrow3; obtain ⟨g2, c2, rfl⟩ := own_form hown3; have hm := HQ.out.midX hb hgrow3; have hm1 := hm.1; have hm2 := hm.2))
      all_goals go_wp2_with fail
      all_goals go_meet
      all_goals exact ⟨b', _, _, HQ.out.pushX hlt (Nat.le_refl _) hb hlo (SetM.of hrow HQS.out.1 HQS.out.2.1) hown3 hgrow3⟩
    case rest =>
      obtain ⟨b', g2, c2, hQ1⟩ := hcut
      clear hc0 HQ HQS
      have HQ1 : Hid (QAt w wc.drew Bw (N + 1) N (.slice (some ⟨g2, 0, none⟩) (N + 1) c2) (.slice (some ⟨g', 0, none⟩) N cr) { F with b := upd F.b N b', n := upd F.n N (F.n i), mx := upd F.mx N (F.mx i) } Bo kind A B (.slice a l.length cap)) := hQ1.drew
      have hc0 : wc.drew.cell? ⟨Bw, 1, none⟩ = some (.slice (some ⟨g', 0, none⟩) N cr) := HQ1.out.inv.rcell
      have HRC : Hid (Calls Tryd.prog 34 #[.pointer (some ⟨F.br i, 0, none⟩)] wc.drew fun e w' => ∃ br' bi', e = .returned (.pointer (some ⟨br', 0, none⟩)) ∧ wc.drew.heap.size ≤ bi' ∧ RefAt w' br' bi' (upd F.n N (F.n i) N) (F.mr i) ∧ Below wc.drew.heap.size wc.drew w') := qat_rcopy HQ1.out hi (by show upd F.n N (F.n i) N = upd F.n N (F.n i) i; rw [upd_same, upd_other _ (by omega)])
      clear hQ1
      go_wp2_with fail
      go_cut [] from 265 to 275 (fun wx => ∃ br' bi' g3 c3, QAt w wx Bw (N + 1) (N + 1) (.slice (some ⟨g2, 0, none⟩) (N + 1) c2) (.slice (some ⟨g3, 0, none⟩) (N + 1) c3) { F with b := upd F.b N b', n := upd F.n N (F.n i), mx := upd F.mx N (F.mx i), br := upd F.br N br', bi := upd F.bi N bi', mr := upd F.mr N (F.mr i) } Bo kind A B (.slice a l.length cap))
      case first =>
        go_region_law (first
          | (refine step_call rfl 34 #[.tmp 270] #[35] rfl #[.pointer (some ⟨F.br i, 0, none⟩)] (by simp [Act.eval, Act.put]) E34.out HRC.out ?_; rintro e w1 ⟨br', bi', rfl, hlo, hrow, hb⟩; refine ⟨_, rfl, ?_⟩; have hcw := (HQ1.out.keep hb).inv.rcell; have hownR := (HQ1.out.keep hb).inv.rs; have hcw2 : ∀ o, (w1.alloc o).cell? ⟨Bw, 1, none⟩ = some (.slice (some ⟨g', 0, none⟩) N cr) := (fun o => ((HQ1.out.keep hb).keep ((Below.refl _ w1).alloc (Nat.le_refl _) o)).inv.rcell); have hb2 := (HQ1.out.keep hb).inv.bel.size)
          | (refine step_append_own rfl (.tmp 269) (.tmp 272) 26 rfl w.heap.size 35 j0 (.pointer none) 1 8 Tryd.underlying26 hj0 hy0 hy1 hy2 rfl (by decide) _ _ _ (by simp [Act.eval]) (hownR.alloc _) ⟨w1.heap.size, 0, none⟩ 1 1 [.pointer (some ⟨br', 0, none⟩)] (by simp [Act.eval]) rfl (cell_one_new _ _ _) (by simp [Value.oneCell']) (by unfold maxLen; omega) (by omega) (by simp; omega) ?_; intro v' w3 hown3 hgrow3; obtain ⟨g3, c3, rfl⟩ := own_form hown3; have hm := HQ1.out.midR hb hgrow3; have hm1 := hm.1; have hm2 := hm.2))
        all_goals go_wp2_with fail
        all_goals go_meet
        all_goals exact ⟨br', bi', _, _, HQ1.out.pushR hlt hb hlo hrow hown3 hgrow3⟩
      case rest =>
        obtain ⟨br', bi', g3, c3, hQ2⟩ := hcut
        clear hc0 HQ1 HRC
        obtain ⟨F2, hF2⟩ : ∃ F2 : Fam, F2 = { F with b := upd F.b N b', n := upd F.n N (F.n i), mx := upd F.mx N (F.mx i), br := upd F.br N br', bi := upd F.bi N bi', mr := upd F.mr N (F.mr i) } := ⟨_, rfl⟩
        rw [← hF2] at hQ2
        have f1 : F2.b N = b' := by rw [hF2]; exact upd_same _ _ _
        have f2 : F2.br i = F.br i := by rw [hF2]; exact upd_other _ (by omega)
        have f3 : F2.n i = F2.n N := by rw [hF2]; show upd F.n N (F.n i) i = upd F.n N (F.n i) N; rw [upd_same, upd_other _ (by omega)]
        have f4 : Same (N + 1) F2 := by
          intro j hj
          rw [hF2]
          show upd F.mx N (F.mx i) j = upd F.mr N (F.mr i) j
          by_cases e : j = N
          · rw [e, upd_same, upd_same]; exact HS.out i hi
          · rw [upd_other _ e, upd_other _ e]; exact HS.out j (by omega)
        have f5 : F2.mr i = F2.mx N := by rw [hF2]; show upd F.mr N (F.mr i) i = upd F.mx N (F.mx i) N; rw [upd_same, upd_other _ (by omega)]; exact (HS.out i hi).symm
        have HF : Hid (Same (N + 1) F2) := f4
        have HIS : Hid (∀ V, QAt w V Bw (N + 1) (N + 1) (.slice (some ⟨g2, 0, none⟩) (N + 1) c2) (.slice (some ⟨g3, 0, none⟩) (N + 1) c3) F2 Bo kind A B (.slice a l.length cap) → Calls Tryd.prog 9 #[.pointer (some ⟨b', 0, none⟩), .pointer (some ⟨F.br i, 0, none⟩)] V fun e w' => e = .returned (.bool true) ∧ QAt w w' Bw (N + 1) (N + 1) (.slice (some ⟨g2, 0, none⟩) (N + 1) c2) (.slice (some ⟨g3, 0, none⟩) (N + 1) c3) F2 Bo kind A B (.slice a l.length cap)) := fun V h => by
          have := qat_is h (i := N) (j := i) (by omega) (by omega) HT.out hw0 f3 f5
          rwa [f1, f2] at this
        haveI hne : Nonempty (WBox (fun v => QAt w v Bw (N + 1) (N + 1) (.slice (some ⟨g2, 0, none⟩) (N + 1) c2) (.slice (some ⟨g3, 0, none⟩) (N + 1) c3) F2 Bo kind A B (.slice a l.length cap))) := ⟨⟨_, hQ2.drew⟩⟩
        have c1 : ∀ s : WBox (fun v => QAt w v Bw (N + 1) (N + 1) (.slice (some ⟨g2, 0, none⟩) (N + 1) c2) (.slice (some ⟨g3, 0, none⟩) (N + 1) c3) F2 Bo kind A B (.slice a l.length cap)), s.w.cell? ⟨g2, N, none⟩ = some (.pointer (some ⟨b', 0, none⟩)) := fun s => by
          have := s.ok.xat N (by omega)
          rwa [f1] at this
        have c3 := fun s : WBox (fun v => QAt w v Bw (N + 1) (N + 1) (.slice (some ⟨g2, 0, none⟩) (N + 1) c2) (.slice (some ⟨g3, 0, none⟩) (N + 1) c3) F2 Bo kind A B (.slice a l.length cap)) => s.ok.inv.xcell
        clear hF2 f1 f2 f3 f4 f5
        go_wp2_with fail
        refine wp_region_class (p := fun v => QAt w v Bw (N + 1) (N + 1) (.slice (some ⟨g2, 0, none⟩) (N + 1) c2) (.slice (some ⟨g3, 0, none⟩) (N + 1) _) F2 Bo kind A B (.slice a l.length cap)) (by kernel_rfl) (by kernel_rfl) hQ2.drew ?_
        repeat (go_big_quiet_step (first
          | (go_at_call 9; rename_i s; with_reducible exact calls_class (HIS.out _ s.ok))))
        refine wpQuiet_nil ?_
        rintro _ ⟨s, rfl⟩
        go_wp2_with fail
        go_ret
        exact ⟨rfl, _, _, _, _, F2, s.ok.inv, HF.out⟩
  · go_enter Tryd.func8, Tryd.ntmps8
    go_wp2_with fail
    have hVb : Below W.heap.size W (W.alloc (.cells #[.int .i64 kind, .int .i64 A, .int .i64 B, .slice a l.length cap] 31)) := (Below.refl _ W).alloc (Nat.le_refl _) _
    have hbox : (W.alloc (.cells #[.int .i64 kind, .int .i64 A, .int .i64 B, .slice a l.length cap] 31)).heap[W.heap.size]? = some (.cells #[.int .i64 kind, .int .i64 A, .int .i64 B, .slice a l.length cap] 31 (0, 0)) := heap_alloc_last W _
    have HV : Hid (PInv w (W.alloc (.cells #[.int .i64 kind, .int .i64 A, .int .i64 B, .slice a l.length cap] 31)) Bw N N (.slice (some ⟨g, 0, none⟩) N cx) (.slice (some ⟨g', 0, none⟩) N cr) F) := HI.out.keep hVb
    have hcg1 : (W.alloc (.cells #[.int .i64 kind, .int .i64 A, .int .i64 B, .slice a l.length cap] 31)).cell? ⟨g, i, none⟩ = some (.pointer (some ⟨F.b i, 0, none⟩)) := (by rw [hVb.cell (by exact World.block_lt_of_cell? W _ hcg)]; exact hcg)
    have hcg2 : (W.alloc (.cells #[.int .i64 kind, .int .i64 A, .int .i64 B, .slice a l.length cap] 31)).cell? ⟨g', i, none⟩ = some (.pointer (some ⟨F.br i, 0, none⟩)) := (by rw [hVb.cell (by exact World.block_lt_of_cell? W _ hcg')]; exact hcg')
    have hcx1 := HV.out.xcell
    have hcr1 := HV.out.rcell
    have HBOX : Hid ((W.alloc (.cells #[.int .i64 kind, .int .i64 A, .int .i64 B, .slice a l.length cap] 31)).heap[W.heap.size]? = some (.cells #[.int .i64 kind, .int .i64 A, .int .i64 B, .slice a l.length cap] 31 (0, 0))) := hbox
    have hb0 := cell_of_row _ _ 0 _ _ _ hbox
    have hb1 := cell_of_row _ _ 1 _ _ _ hbox
    have hb2 := cell_of_row _ _ 2 _ _ _ hbox
    have hb3 := cell_of_row _ _ 3 _ _ _ hbox
    clear hVb hbox hcg hcg' hcx hcr HI
    generalize W.alloc (.cells #[.int .i64 kind, .int .i64 A, .int .i64 B, .slice a l.length cap] 31) = V at *
    generalize W.heap.size = Bo at *
    simp only [List.getElem?_toArray, List.getElem?_cons_zero, List.getElem?_cons_succ] at hb0 hb1 hb2 hb3
    go_quiet (first | (go_at_call 17; with_reducible exact Calls.quiet_of_same (HPI.out _)))
    have HV' : Hid (PInv w (V.drewN nq) Bw N N (.slice (some ⟨g, 0, none⟩) N cx) (.slice (some ⟨g', 0, none⟩) N cr) F) := HV.out.drewN nq
    have HBOX' : Hid ((V.drewN nq).heap[Bo]? = some (.cells #[.int .i64 kind, .int .i64 A, .int .i64 B, .slice a l.length cap] 31 (0, 0))) := HBOX.out
    have hcg1' : (V.drewN nq).cell? ⟨g, i, none⟩ = some (.pointer (some ⟨F.b i, 0, none⟩)) := hcg1
    have hcg2' : (V.drewN nq).cell? ⟨g', i, none⟩ = some (.pointer (some ⟨F.br i, 0, none⟩)) := hcg2
    clear HV HBOX hcg1 hcg2 hcx1 hcr1 hb0 hb1 hb2 hb3
    generalize V.drewN nq = V1 at *
    have hcx1 := HV'.out.xcell
    have hcr1 := HV'.out.rcell
    have hb0 := cell_of_row _ _ 0 _ _ _ HBOX'.out
    have hb1 := cell_of_row _ _ 1 _ _ _ HBOX'.out
    have hb2 := cell_of_row _ _ 2 _ _ _ HBOX'.out
    have hb3 := cell_of_row _ _ 3 _ _ _ HBOX'.out
    simp only [List.getElem?_toArray, List.getElem?_cons_zero, List.getElem?_cons_succ] at hb0 hb1 hb2 hb3
    go_wp2_with fail
    go_quiet (first | (go_at_call 17; with_reducible exact Calls.quiet_of_same (HPJ.out _)))
    have HV2 : Hid (PInv w (V1.drewN nq) Bw N N (.slice (some ⟨g, 0, none⟩) N cx) (.slice (some ⟨g', 0, none⟩) N cr) F) := HV'.out.drewN nq
    have HBOX2 : Hid ((V1.drewN nq).heap[Bo]? = some (.cells #[.int .i64 kind, .int .i64 A, .int .i64 B, .slice a l.length cap] 31 (0, 0))) := HBOX'.out
    have hcg3 : (V1.drewN nq).cell? ⟨g, i, none⟩ = some (.pointer (some ⟨F.b i, 0, none⟩)) := hcg1'
    have hcg4 : (V1.drewN nq).cell? ⟨g', i, none⟩ = some (.pointer (some ⟨F.br i, 0, none⟩)) := hcg2'
    clear HV' HBOX' hcg1' hcg2' hcx1 hcr1 hb0 hb1 hb2 hb3
    generalize V1.drewN nq = V2 at *
    have hcx1 := HV2.out.xcell
    have hcr1 := HV2.out.rcell
    have hb0 := cell_of_row _ _ 0 _ _ _ HBOX2.out
    have hb1 := cell_of_row _ _ 1 _ _ _ HBOX2.out
    have hb2 := cell_of_row _ _ 2 _ _ _ HBOX2.out
    have hb3 := cell_of_row _ _ 3 _ _ _ HBOX2.out
    simp only [List.getElem?_toArray, List.getElem?_cons_zero, List.getElem?_cons_succ] at hb0 hb1 hb2 hb3
    go_wp2_with fail
    have hA : SAt w V2 Bw N g g' cx cr F Bo kind A B (.slice a l.length cap) := ⟨HV2.out, HBOX2.out⟩
    clear HV2 HBOX2 hcg3 hcg4 hcx1 hcr1 hb0 hb1 hb2 hb3
    have hQ : QAt w V2 Bw N N (.slice (some ⟨g, 0, none⟩) N cx) (.slice (some ⟨g', 0, none⟩) N cr) F Bo kind A B (.slice a l.length cap) := ⟨hA.inv, hA.box⟩
    have HQ : Hid (QAt w V2.drew Bw N N (.slice (some ⟨g, 0, none⟩) N cx) (.slice (some ⟨g', 0, none⟩) N cr) F Bo kind A B (.slice a l.length cap)) := hQ.drew
    have hc0 : V2.drew.cell? ⟨Bw, 0, none⟩ = some (.slice (some ⟨g, 0, none⟩) N cx) := HQ.out.inv.xcell
    have HQS : Hid (SetM V2.drew (some ⟨F.b i, 0, none⟩) (F.n i) (F.mx i)) := (HQ.out.inv.sets i hi).2
    clear hA hQ
    go_cut [] from 254 to 264 (fun wx => ∃ b' g2 c2, QAt w wx Bw (N + 1) N (.slice (some ⟨g2, 0, none⟩) (N + 1) c2) (.slice (some ⟨g', 0, none⟩) N cr) { F with b := upd F.b N b', n := upd F.n N (F.n i), mx := upd F.mx N (F.mx i) } Bo kind A B (.slice a l.length cap))
    case first =>
      go_region_law (first
        | (refine step_call rfl 21 #[.tmp 259] #[34] rfl #[.pointer (some ⟨F.b i, 0, none⟩)] (by simp [Act.eval, Act.put]) E21.out (copy_any _ (F.n i) (F.mx i) _ HQS.out) ?_; rintro e w1 ⟨b', rfl, hlo, hrow, hb⟩; refine ⟨_, rfl, ?_⟩; have hcw := (HQ.out.keep hb).inv.xcell; have hownX := (HQ.out.keep hb).inv.xs; have hcw2 : ∀ o, (w1.alloc o).cell? ⟨Bw, 0, none⟩ = some (.slice (some ⟨g, 0, none⟩) N cx) := (fun o => ((HQ.out.keep hb).keep ((Below.refl _ w1).alloc (Nat.le_refl _) o)).inv.xcell); have hb2 := (HQ.out.keep hb).inv.bel.size)
        | (refine step_append_own rfl (.tmp 258) (.tmp 261) 25 rfl w.heap.size 34 i0 (.pointer none) 1 8 Tryd.underlying25 hi0 hz0 hz1 hz2 rfl (by decide) _ _ _ (by simp [Act.eval]) (hownX.alloc _) ⟨w1.heap.size, 0, none⟩ 1 1 [.pointer (some ⟨b', 0, none⟩)] (by simp [Act.eval]) rfl (cell_one_new _ _ _) (by simp [Value.oneCell']) (by unfold maxLen; omega) (by omega) (by simp; omega) ?_; intro v' w3 hown3 hgrow3; obtain ⟨g2, c2, rfl⟩ := own_form hown3; have hm := HQ.out.midX hb hgrow3; have hm1 := hm.1; have hm2 := hm.2))
      all_goals go_wp2_with fail
      all_goals go_meet
      all_goals exact ⟨b', _, _, HQ.out.pushX hlt (Nat.le_refl _) hb hlo (SetM.of hrow HQS.out.1 HQS.out.2.1) hown3 hgrow3⟩
    case rest =>
      obtain ⟨b', g2, c2, hQ1⟩ := hcut
      clear hc0 HQ HQS
      have HQ1 : Hid (QAt w wc.drew Bw (N + 1) N (.slice (some ⟨g2, 0, none⟩) (N + 1) c2) (.slice (some ⟨g', 0, none⟩) N cr) { F with b := upd F.b N b', n := upd F.n N (F.n i), mx := upd F.mx N (F.mx i) } Bo kind A B (.slice a l.length cap)) := hQ1.drew
      have hc0 : wc.drew.cell? ⟨Bw, 1, none⟩ = some (.slice (some ⟨g', 0, none⟩) N cr) := HQ1.out.inv.rcell
      have HRC : Hid (Calls Tryd.prog 34 #[.pointer (some ⟨F.br i, 0, none⟩)] wc.drew fun e w' => ∃ br' bi', e = .returned (.pointer (some ⟨br', 0, none⟩)) ∧ wc.drew.heap.size ≤ bi' ∧ RefAt w' br' bi' (upd F.n N (F.n i) N) (F.mr i) ∧ Below wc.drew.heap.size wc.drew w') := qat_rcopy HQ1.out hi (by show upd F.n N (F.n i) N = upd F.n N (F.n i) i; rw [upd_same, upd_other _ (by omega)])
      clear hQ1
      go_wp2_with fail
      go_cut [] from 265 to 275 (fun wx => ∃ br' bi' g3 c3, QAt w wx Bw (N + 1) (N + 1) (.slice (some ⟨g2, 0, none⟩) (N + 1) c2) (.slice (some ⟨g3, 0, none⟩) (N + 1) c3) { F with b := upd F.b N b', n := upd F.n N (F.n i), mx := upd F.mx N (F.mx i), br := upd F.br N br', bi := upd F.bi N bi', mr := upd F.mr N (F.mr i) } Bo kind A B (.slice a l.length cap))
      case first =>
        go_region_law (first
          | (refine step_call rfl 34 #[.tmp 270] #[35] rfl #[.pointer (some ⟨F.br i, 0, none⟩)] (by simp [Act.eval, Act.put]) E34.out HRC.out ?_; rintro e w1 ⟨br', bi', rfl, hlo, hrow, hb⟩; refine ⟨_, rfl, ?_⟩; have hcw := (HQ1.out.keep hb).inv.rcell; have hownR := (HQ1.out.keep hb).inv.rs; have hcw2 : ∀ o, (w1.alloc o).cell? ⟨Bw, 1, none⟩ = some (.slice (some ⟨g', 0, none⟩) N cr) := (fun o => ((HQ1.out.keep hb).keep ((Below.refl _ w1).alloc (Nat.le_refl _) o)).inv.rcell); have hb2 := (HQ1.out.keep hb).inv.bel.size)
          | (refine step_append_own rfl (.tmp 269) (.tmp 272) 26 rfl w.heap.size 35 j0 (.pointer none) 1 8 Tryd.underlying26 hj0 hy0 hy1 hy2 rfl (by decide) _ _ _ (by simp [Act.eval]) (hownR.alloc _) ⟨w1.heap.size, 0, none⟩ 1 1 [.pointer (some ⟨br', 0, none⟩)] (by simp [Act.eval]) rfl (cell_one_new _ _ _) (by simp [Value.oneCell']) (by unfold maxLen; omega) (by omega) (by simp; omega) ?_; intro v' w3 hown3 hgrow3; obtain ⟨g3, c3, rfl⟩ := own_form hown3; have hm := HQ1.out.midR hb hgrow3; have hm1 := hm.1; have hm2 := hm.2))
        all_goals go_wp2_with fail
        all_goals go_meet
        all_goals exact ⟨br', bi', _, _, HQ1.out.pushR hlt hb hlo hrow hown3 hgrow3⟩
      case rest =>
        obtain ⟨br', bi', g3, c3, hQ2⟩ := hcut
        clear hc0 HQ1 HRC
        obtain ⟨F2, hF2⟩ : ∃ F2 : Fam, F2 = { F with b := upd F.b N b', n := upd F.n N (F.n i), mx := upd F.mx N (F.mx i), br := upd F.br N br', bi := upd F.bi N bi', mr := upd F.mr N (F.mr i) } := ⟨_, rfl⟩
        rw [← hF2] at hQ2
        have f1 : F2.b N = b' := by rw [hF2]; exact upd_same _ _ _
        have f2 : F2.br i = F.br i := by rw [hF2]; exact upd_other _ (by omega)
        have f3 : F2.n i = F2.n N := by rw [hF2]; show upd F.n N (F.n i) i = upd F.n N (F.n i) N; rw [upd_same, upd_other _ (by omega)]
        have f4 : Same (N + 1) F2 := by
          intro j hj
          rw [hF2]
          show upd F.mx N (F.mx i) j = upd F.mr N (F.mr i) j
          by_cases e : j = N
          · rw [e, upd_same, upd_same]; exact HS.out i hi
          · rw [upd_other _ e, upd_other _ e]; exact HS.out j (by omega)
        have f5 : F2.mr i = F2.mx N := by rw [hF2]; show upd F.mr N (F.mr i) i = upd F.mx N (F.mx i) N; rw [upd_same, upd_other _ (by omega)]; exact (HS.out i hi).symm
        have HF : Hid (Same (N + 1) F2) := f4
        have HIS : Hid (∀ V, QAt w V Bw (N + 1) (N + 1) (.slice (some ⟨g2, 0, none⟩) (N + 1) c2) (.slice (some ⟨g3, 0, none⟩) (N + 1) c3) F2 Bo kind A B (.slice a l.length cap) → Calls Tryd.prog 9 #[.pointer (some ⟨b', 0, none⟩), .pointer (some ⟨F.br i, 0, none⟩)] V fun e w' => e = .returned (.bool true) ∧ QAt w w' Bw (N + 1) (N + 1) (.slice (some ⟨g2, 0, none⟩) (N + 1) c2) (.slice (some ⟨g3, 0, none⟩) (N + 1) c3) F2 Bo kind A B (.slice a l.length cap)) := fun V h => by
          have := qat_is h (i := N) (j := i) (by omega) (by omega) HT.out hw0 f3 f5
          rwa [f1, f2] at this
        haveI hne : Nonempty (WBox (fun v => QAt w v Bw (N + 1) (N + 1) (.slice (some ⟨g2, 0, none⟩) (N + 1) c2) (.slice (some ⟨g3, 0, none⟩) (N + 1) c3) F2 Bo kind A B (.slice a l.length cap))) := ⟨⟨_, hQ2.drew⟩⟩
        have c1 : ∀ s : WBox (fun v => QAt w v Bw (N + 1) (N + 1) (.slice (some ⟨g2, 0, none⟩) (N + 1) c2) (.slice (some ⟨g3, 0, none⟩) (N + 1) c3) F2 Bo kind A B (.slice a l.length cap)), s.w.cell? ⟨g2, N, none⟩ = some (.pointer (some ⟨b', 0, none⟩)) := fun s => by
          have := s.ok.xat N (by omega)
          rwa [f1] at this
        have c3 := fun s : WBox (fun v => QAt w v Bw (N + 1) (N + 1) (.slice (some ⟨g2, 0, none⟩) (N + 1) c2) (.slice (some ⟨g3, 0, none⟩) (N + 1) c3) F2 Bo kind A B (.slice a l.length cap)) => s.ok.inv.xcell
        clear hF2 f1 f2 f3 f4 f5
        go_wp2_with fail
        refine wp_region_class (p := fun v => QAt w v Bw (N + 1) (N + 1) (.slice (some ⟨g2, 0, none⟩) (N + 1) c2) (.slice (some ⟨g3, 0, none⟩) (N + 1) _) F2 Bo kind A B (.slice a l.length cap)) (by kernel_rfl) (by kernel_rfl) hQ2.drew ?_
        repeat (go_big_quiet_step (first
          | (go_at_call 9; rename_i s; with_reducible exact calls_class (HIS.out _ s.ok))))
        refine wpQuiet_nil ?_
        rintro _ ⟨s, rfl⟩
        go_wp2_with fail
        go_ret
        exact ⟨rfl, _, _, _, _, F2, s.ok.inv, HF.out⟩

end Go.Proofs.YtkmocjdjdlpphaaDoor
