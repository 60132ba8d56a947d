/-
  A step of a script: Drop.
-/
import Derived.Test.YtkmocjdjdlpphaaDoorStepLaws
namespace Go.Proofs.YtkmocjdjdlpphaaDoor
open Go.RowKit Go.Shelf

attribute [local go_sem] Oper.semAt_some

set_option maxRecDepth 100000 in
set_option maxHeartbeats 4000000 in
theorem play_drop (t : Int) (ht : t = 2 ∨ t = -2) (w W : World) (Bw N : Nat) (ax ar : Option Addr) (cx cr : Nat) (F : Fam) (kind A B : Int) (a : Option Addr) (cap i j : Nat)
    (hI : PInv w W Bw N N (.slice ax N cx) (.slice ar N cr) F) (hS : Same N F) (hN : 0 < N) (hk : kind.tmod 8 = t)
    (hpi : ∀ wr, Calls Tryd.prog 17 #[.int .i64 A, .int .i64 (N : Int)] wr fun e w' => e = .returned (.int .i64 (i : Nat)) ∧ w' = wr) (hpj : ∀ wr, Calls Tryd.prog 17 #[.int .i64 B, .int .i64 (N : Int)] wr fun e w' => e = .returned (.int .i64 (j : Nat)) ∧ w' = wr)
    (hi : i < N) (_hj : j < N)
    (l : List Int) (hl : IntsAt w a l) (hlen : l.length ≤ 17592186043904) (hT : Tab w) (hw0 : 0 < w.heap.size) :
    Calls Tryd.prog 8 #[.pointer (some ⟨Bw, 0, none⟩), .agg #[.int .i64 kind, .int .i64 A, .int .i64 B, .slice a l.length cap]] W fun e w' => e = .returned (.bool true) ∧ ∃ F', PInv w w' Bw N N (.slice ax N cx) (.slice ar N cr) F' ∧ Same N F' := by
  have hle := hI.le.1
  have hcx := hI.xcell
  have hcr := hI.rcell
  have hBlt := hI.blt
  obtain ⟨ax', cx', ex, hxs⟩ := hI.xform
  simp only [Value.slice.injEq, true_and] at ex
  obtain ⟨rfl, rfl⟩ := ex
  obtain ⟨ar', cr', er, hrs⟩ := hI.rform
  simp only [Value.slice.injEq, true_and] at er
  obtain ⟨rfl, rfl⟩ := er
  obtain ⟨g, rfl, hcg⟩ := hxs i hi
  obtain ⟨g', rfl, hcg'⟩ := hrs i hi
  have HI : Hid (PInv w W Bw N N (.slice (some ⟨g, 0, none⟩) N cx) (.slice (some ⟨g', 0, none⟩) N cr) F) := hI
  have HS : Hid (Same N F) := hS
  have HPI : Hid (∀ wr, Calls Tryd.prog 17 #[.int .i64 A, .int .i64 (N : Int)] wr fun e w' => e = .returned (.int .i64 (i : Nat)) ∧ w' = wr) := hpi
  have HPJ : Hid (∀ wr, Calls Tryd.prog 17 #[.int .i64 B, .int .i64 (N : Int)] wr fun e w' => e = .returned (.int .i64 (j : Nat)) ∧ w' = wr) := hpj
  have HL : Hid (IntsAt w a l) := hl
  have HT : Hid (Tab w) := hT
  clear hI hS hpi hpj hxs hrs hl hT
  rcases ht with rfl | rfl
  · go_enter Tryd.func8, Tryd.ntmps8
    go_wp2_with fail
    have hVb : Below W.heap.size W (W.alloc (.cells #[.int .i64 kind, .int .i64 A, .int .i64 B, .slice a l.length cap] 31)) := (Below.refl _ W).alloc (Nat.le_refl _) _
    have hbox : (W.alloc (.cells #[.int .i64 kind, .int .i64 A, .int .i64 B, .slice a l.length cap] 31)).heap[W.heap.size]? = some (.cells #[.int .i64 kind, .int .i64 A, .int .i64 B, .slice a l.length cap] 31 (0, 0)) := heap_alloc_last W _
    have HV : Hid (PInv w (W.alloc (.cells #[.int .i64 kind, .int .i64 A, .int .i64 B, .slice a l.length cap] 31)) Bw N N (.slice (some ⟨g, 0, none⟩) N cx) (.slice (some ⟨g', 0, none⟩) N cr) F) := HI.out.keep hVb
    have hcg1 : (W.alloc (.cells #[.int .i64 kind, .int .i64 A, .int .i64 B, .slice a l.length cap] 31)).cell? ⟨g, i, none⟩ = some (.pointer (some ⟨F.b i, 0, none⟩)) := (by rw [hVb.cell (by exact World.block_lt_of_cell? W _ hcg)]; exact hcg)
    have hcg2 : (W.alloc (.cells #[.int .i64 kind, .int .i64 A, .int .i64 B, .slice a l.length cap] 31)).cell? ⟨g', i, none⟩ = some (.pointer (some ⟨F.br i, 0, none⟩)) := (by rw [hVb.cell (by exact World.block_lt_of_cell? W _ hcg')]; exact hcg')
    have hcx1 := HV.out.xcell
    have hcr1 := HV.out.rcell
    have HBOX : Hid ((W.alloc (.cells #[.int .i64 kind, .int .i64 A, .int .i64 B, .slice a l.length cap] 31)).heap[W.heap.size]? = some (.cells #[.int .i64 kind, .int .i64 A, .int .i64 B, .slice a l.length cap] 31 (0, 0))) := hbox
    have hb0 := cell_of_row _ _ 0 _ _ _ hbox
    have hb1 := cell_of_row _ _ 1 _ _ _ hbox
    have hb2 := cell_of_row _ _ 2 _ _ _ hbox
    have hb3 := cell_of_row _ _ 3 _ _ _ hbox
    clear hVb hbox hcg hcg' hcx hcr HI
    generalize W.alloc (.cells #[.int .i64 kind, .int .i64 A, .int .i64 B, .slice a l.length cap] 31) = V at *
    generalize W.heap.size = Bo at *
    simp only [List.getElem?_toArray, List.getElem?_cons_zero, List.getElem?_cons_succ] at hb0 hb1 hb2 hb3
    go_quiet (first | (go_at_call 17; with_reducible exact Calls.quiet_of_same (HPI.out _)))
    have HV' : Hid (PInv w (V.drewN nq) Bw N N (.slice (some ⟨g, 0, none⟩) N cx) (.slice (some ⟨g', 0, none⟩) N cr) F) := HV.out.drewN nq
    have HBOX' : Hid ((V.drewN nq).heap[Bo]? = some (.cells #[.int .i64 kind, .int .i64 A, .int .i64 B, .slice a l.length cap] 31 (0, 0))) := HBOX.out
    have hcg1' : (V.drewN nq).cell? ⟨g, i, none⟩ = some (.pointer (some ⟨F.b i, 0, none⟩)) := hcg1
    have hcg2' : (V.drewN nq).cell? ⟨g', i, none⟩ = some (.pointer (some ⟨F.br i, 0, none⟩)) := hcg2
    clear HV HBOX hcg1 hcg2 hcx1 hcr1 hb0 hb1 hb2 hb3
    generalize V.drewN nq = V1 at *
    have hcx1 := HV'.out.xcell
    have hcr1 := HV'.out.rcell
    have hb0 := cell_of_row _ _ 0 _ _ _ HBOX'.out
    have hb1 := cell_of_row _ _ 1 _ _ _ HBOX'.out
    have hb2 := cell_of_row _ _ 2 _ _ _ HBOX'.out
    have hb3 := cell_of_row _ _ 3 _ _ _ HBOX'.out
    simp only [List.getElem?_toArray, List.getElem?_cons_zero, List.getElem?_cons_succ] at hb0 hb1 hb2 hb3
    go_wp2_with fail
    go_quiet (first | (go_at_call 17; with_reducible exact Calls.quiet_of_same (HPJ.out _)))
    have HV2 : Hid (PInv w (V1.drewN nq) Bw N N (.slice (some ⟨g, 0, none⟩) N cx) (.slice (some ⟨g', 0, none⟩) N cr) F) := HV'.out.drewN nq
    have HBOX2 : Hid ((V1.drewN nq).heap[Bo]? = some (.cells #[.int .i64 kind, .int .i64 A, .int .i64 B, .slice a l.length cap] 31 (0, 0))) := HBOX'.out
    have hcg3 : (V1.drewN nq).cell? ⟨g, i, none⟩ = some (.pointer (some ⟨F.b i, 0, none⟩)) := hcg1'
    have hcg4 : (V1.drewN nq).cell? ⟨g', i, none⟩ = some (.pointer (some ⟨F.br i, 0, none⟩)) := hcg2'
    clear HV' HBOX' hcg1' hcg2' hcx1 hcr1 hb0 hb1 hb2 hb3
    generalize V1.drewN nq = V2 at *
    have hcx1 := HV2.out.xcell
    have hcr1 := HV2.out.rcell
    have hb0 := cell_of_row _ _ 0 _ _ _ HBOX2.out
    have hb1 := cell_of_row _ _ 1 _ _ _ HBOX2.out
    have hb2 := cell_of_row _ _ 2 _ _ _ HBOX2.out
    have hb3 := cell_of_row _ _ 3 _ _ _ HBOX2.out
    simp only [List.getElem?_toArray, List.getElem?_cons_zero, List.getElem?_cons_succ] at hb0 hb1 hb2 hb3
    go_wp2_with fail
    have hA : SAt w V2 Bw N g g' cx cr F Bo kind A B (.slice a l.length cap) := ⟨HV2.out, HBOX2.out⟩
    clear HV2 HBOX2 hcg3 hcg4 hcx1 hcr1 hb0 hb1 hb2 hb3
    refine (sat_lent HL.out hlen hA).mono ?_
    rintro e w1 ⟨rfl, hA1, hL1⟩
    have HA1 : Hid (SAt w w1 Bw N g g' cx cr F Bo kind A B (.slice a l.length cap)) := hA1
    have HL1 : Hid (LentAt w1 V2.heap.size l 8) := hL1
    clear hA hA1 hL1
    generalize V2.heap.size = gL at *
    go_wp2_with fail
    refine (sat_drop hi hlen HA1.out HL1.out).mono ?_
    rintro e w2 ⟨rfl, hA2, hL2⟩
    have HSI := HS.out i hi
    have hR := fun (V : World) (h : SAt w V Bw N g g' cx cr { F with mx := upd F.mx i (dropS (F.mx i) l).1 } Bo kind A B (.slice a l.length cap)) (h' : LentAt V gL l 8) => sat_rdrop (cap := cap) hi HL.out hlen h h'
    simp only [← HSI] at hR
    have HRR : Hid (∀ V, SAt w V Bw N g g' cx cr { F with mx := upd F.mx i (dropS (F.mx i) l).1 } Bo kind A B (.slice a l.length cap) → LentAt V gL l 8 → Calls Tryd.prog 19 #[.pointer (some ⟨F.br i, 0, none⟩), .slice a l.length cap] V fun e w' => e = .returned (.int .i64 ((dropS (F.mx i) l).2 : Nat)) ∧ SAt w w' Bw N g g' cx cr { F with mx := upd F.mx i (dropS (F.mx i) l).1, mr := upd F.mr i (dropS (F.mx i) l).1 } Bo kind A B (.slice a l.length cap) ∧ LentAt w' gL l 8) := hR
    clear hR
    have HA2 : Hid (SAt w w2 Bw N g g' cx cr { F with mx := upd F.mx i (dropS (F.mx i) l).1 } Bo kind A B (.slice a l.length cap)) := hA2
    have HL2 : Hid (LentAt w2 gL l 8) := hL2
    have HSAME : Hid (Same N { F with mx := upd F.mx i (dropS (F.mx i) l).1, mr := upd F.mr i (dropS (F.mx i) l).1 }) := HS.out.turn
    have ct := hA2.told
    clear hA2 hL2 HA1 HL1 HSI
    generalize (dropS (F.mx i) l).1 = m' at *
    generalize (dropS (F.mx i) l).2 = k' at *
    have hkk : ((k' : Int) == (k' : Int)) = true := by simp
    go_wp2_with fail
    refine (HRR.out _ HA2.out HL2.out).mono ?_
    rintro e w3 ⟨rfl, hA3, hL3⟩
    have ct3 := hA3.told
    have HA3 : Hid (SAt w w3 Bw N g g' cx cr { F with mx := upd F.mx i m', mr := upd F.mr i m' } Bo kind A B (.slice a l.length cap)) := hA3
    have HL3 : Hid (LentAt w3 gL l 8) := hL3
    clear hA3 hL3 HA2 HL2 HRR ct
    go_wp2_with fail
    refine (sat_whole HL.out hlen HA3.out HL3.out).mono ?_
    rintro e w4 ⟨rfl, hA4⟩
    have HA4 : Hid (SAt w w4 Bw N g g' cx cr { F with mx := upd F.mx i m', mr := upd F.mr i m' } Bo kind A B (.slice a l.length cap)) := hA4
    clear hA4 HA3 HL3 ct3
    go_wp2_with fail
    refine (sat_is (F := { F with mx := upd F.mx i m', mr := upd F.mr i m' }) hi HT.out hw0 (HSAME.out i hi) HA4.out).mono ?_
    rintro e w5 ⟨rfl, hA5⟩
    go_wp2_with fail
    go_ret
    exact ⟨rfl, _, hA5.inv, HSAME.out⟩
  · go_enter Tryd.func8, Tryd.ntmps8
    go_wp2_with fail
    have hVb : Below W.heap.size W (W.alloc (.cells #[.int .i64 kind, .int .i64 A, .int .i64 B, .slice a l.length cap] 31)) := (Below.refl _ W).alloc (Nat.le_refl _) _
    have hbox : (W.alloc (.cells #[.int .i64 kind, .int .i64 A, .int .i64 B, .slice a l.length cap] 31)).heap[W.heap.size]? = some (.cells #[.int .i64 kind, .int .i64 A, .int .i64 B, .slice a l.length cap] 31 (0, 0)) := heap_alloc_last W _
    have HV : Hid (PInv w (W.alloc (.cells #[.int .i64 kind, .int .i64 A, .int .i64 B, .slice a l.length cap] 31)) Bw N N (.slice (some ⟨g, 0, none⟩) N cx) (.slice (some ⟨g', 0, none⟩) N cr) F) := HI.out.keep hVb
    have hcg1 : (W.alloc (.cells #[.int .i64 kind, .int .i64 A, .int .i64 B, .slice a l.length cap] 31)).cell? ⟨g, i, none⟩ = some (.pointer (some ⟨F.b i, 0, none⟩)) := (by rw [hVb.cell (by exact World.block_lt_of_cell? W _ hcg)]; exact hcg)
    have hcg2 : (W.alloc (.cells #[.int .i64 kind, .int .i64 A, .int .i64 B, .slice a l.length cap] 31)).cell? ⟨g', i, none⟩ = some (.pointer (some ⟨F.br i, 0, none⟩)) := (by rw [hVb.cell (by exact World.block_lt_of_cell? W _ hcg')]; exact hcg')
    have hcx1 := HV.out.xcell
    have hcr1 := HV.out.rcell
    have HBOX : Hid ((W.alloc (.cells #[.int .i64 kind, .int .i64 A, .int .i64 B, .slice a l.length cap] 31)).heap[W.heap.size]? = some (.cells #[.int .i64 kind, .int .i64 A, .int .i64 B, .slice a l.length cap] 31 (0, 0))) := hbox
    have hb0 := cell_of_row _ _ 0 _ _ _ hbox
    have hb1 := cell_of_row _ _ 1 _ _ _ hbox
    have hb2 := cell_of_row _ _ 2 _ _ _ hbox
    have hb3 := cell_of_row _ _ 3 _ _ _ hbox
    clear hVb hbox hcg hcg' hcx hcr HI
    generalize W.alloc (.cells #[.int .i64 kind, .int .i64 A, .int .i64 B, .slice a l.length cap] 31) = V at *
    generalize W.heap.size = Bo at *
    simp only [List.getElem?_toArray, List.getElem?_cons_zero, List.getElem?_cons_succ] at hb0 hb1 hb2 hb3
    go_quiet (first | (go_at_call 17; with_reducible exact Calls.quiet_of_same (HPI.out _)))
    have HV' : Hid (PInv w (V.drewN nq) Bw N N (.slice (some ⟨g, 0, none⟩) N cx) (.slice (some ⟨g', 0, none⟩) N cr) F) := HV.out.drewN nq
    have HBOX' : Hid ((V.drewN nq).heap[Bo]? = some (.cells #[.int .i64 kind, .int .i64 A, .int .i64 B, .slice a l.length cap] 31 (0, 0))) := HBOX.out
    have hcg1' : (V.drewN nq).cell? ⟨g, i, none⟩ = some (.pointer (some ⟨F.b i, 0, none⟩)) := hcg1
    have hcg2' : (V.drewN nq).cell? ⟨g', i, none⟩ = some (.pointer (some ⟨F.br i, 0, none⟩)) := hcg2
    clear HV HBOX hcg1 hcg2 hcx1 hcr1 hb0 hb1 hb2 hb3
    generalize V.drewN nq = V1 at *
    have hcx1 := HV'.out.xcell
    have hcr1 := HV'.out.rcell
    have hb0 := cell_of_row _ _ 0 _ _ _ HBOX'.out
    have hb1 := cell_of_row _ _ 1 _ _ _ HBOX'.out
    have hb2 := cell_of_row _ _ 2 _ _ _ HBOX'.out
    have hb3 := cell_of_row _ _ 3 _ _ _ HBOX'.out
    simp only [List.getElem?_toArray, List.getElem?_cons_zero, List.getElem?_cons_succ] at hb0 hb1 hb2 hb3
    go_wp2_with fail
    go_quiet (first | (go_at_call 17; with_reducible exact Calls.quiet_of_same (HPJ.out _)))
    have HV2 : Hid (PInv w (V1.drewN nq) Bw N N (.slice (some ⟨g, 0, none⟩) N cx) (.slice (some ⟨g', 0, none⟩) N cr) F) := HV'.out.drewN nq
    have HBOX2 : Hid ((V1.drewN nq).heap[Bo]? = some (.cells #[.int .i64 kind, .int .i64 A, .int .i64 B, .slice a l.length cap] 31 (0, 0))) := HBOX'.out
    have hcg3 : (V1.drewN nq).cell? ⟨g, i, none⟩ = some (.pointer (some ⟨F.b i, 0, none⟩)) := hcg1'
    have hcg4 : (V1.drewN nq).cell? ⟨g', i, none⟩ = some (.pointer (some ⟨F.br i, 0, none⟩)) := hcg2'
    clear HV' HBOX' hcg1' hcg2' hcx1 hcr1 hb0 hb1 hb2 hb3
    generalize V1.drewN nq = V2 at *
    have hcx1 := HV2.out.xcell
    have hcr1 := HV2.out.rcell
    have hb0 := cell_of_row _ _ 0 _ _ _ HBOX2.out
    have hb1 := cell_of_row _ _ 1 _ _ _ HBOX2.out
    have hb2 := cell_of_row _ _ 2 _ _ _ HBOX2.out
    have hb3 := cell_of_row _ _ 3 _ _ _ HBOX2.out
    simp only [List.getElem?_toArray, List.getElem?_cons_zero, List.getElem?_cons_succ] at hb0 hb1 hb2 hb3
    go_wp2_with fail
    have hA : SAt w V2 Bw N g g' cx cr F Bo kind A B (.slice a l.length cap) := ⟨HV2.out, HBOX2.out⟩
    clear HV2 HBOX2 hcg3 hcg4 hcx1 hcr1 hb0 hb1 hb2 hb3
    refine (sat_lent HL.out hlen hA).mono ?_
    rintro e w1 ⟨rfl, hA1, hL1⟩
    have HA1 : Hid (SAt w w1 Bw N g g' cx cr F Bo kind A B (.slice a l.length cap)) := hA1
    have HL1 : Hid (LentAt w1 V2.heap.size l 8) := hL1
    clear hA hA1 hL1
    generalize V2.heap.size = gL at *
    go_wp2_with fail
    refine (sat_drop hi hlen HA1.out HL1.out).mono ?_
    rintro e w2 ⟨rfl, hA2, hL2⟩
    have HSI := HS.out i hi
    have hR := fun (V : World) (h : SAt w V Bw N g g' cx cr { F with mx := upd F.mx i (dropS (F.mx i) l).1 } Bo kind A B (.slice a l.length cap)) (h' : LentAt V gL l 8) => sat_rdrop (cap := cap) hi HL.out hlen h h'
    simp only [← HSI] at hR
    have HRR : Hid (∀ V, SAt w V Bw N g g' cx cr { F with mx := upd F.mx i (dropS (F.mx i) l).1 } Bo kind A B (.slice a l.length cap) → LentAt V gL l 8 → Calls Tryd.prog 19 #[.pointer (some ⟨F.br i, 0, none⟩), .slice a l.length cap] V fun e w' => e = .returned (.int .i64 ((dropS (F.mx i) l).2 : Nat)) ∧ SAt w w' Bw N g g' cx cr { F with mx := upd F.mx i (dropS (F.mx i) l).1, mr := upd F.mr i (dropS (F.mx i) l).1 } Bo kind A B (.slice a l.length cap) ∧ LentAt w' gL l 8) := hR
    clear hR
    have HA2 : Hid (SAt w w2 Bw N g g' cx cr { F with mx := upd F.mx i (dropS (F.mx i) l).1 } Bo kind A B (.slice a l.length cap)) := hA2
    have HL2 : Hid (LentAt w2 gL l 8) := hL2
    have HSAME : Hid (Same N { F with mx := upd F.mx i (dropS (F.mx i) l).1, mr := upd F.mr i (dropS (F.mx i) l).1 }) := HS.out.turn
    have ct := hA2.told
    clear hA2 hL2 HA1 HL1 HSI
    generalize (dropS (F.mx i) l).1 = m' at *
    generalize (dropS (F.mx i) l).2 = k' at *
    have hkk : ((k' : Int) == (k' : Int)) = true := by simp
    go_wp2_with fail
    refine (HRR.out _ HA2.out HL2.out).mono ?_
    rintro e w3 ⟨rfl, hA3, hL3⟩
    have ct3 := hA3.told
    have HA3 : Hid (SAt w w3 Bw N g g' cx cr { F with mx := upd F.mx i m', mr := upd F.mr i m' } Bo kind A B (.slice a l.length cap)) := hA3
    have HL3 : Hid (LentAt w3 gL l 8) := hL3
    clear hA3 hL3 HA2 HL2 HRR ct
    go_wp2_with fail
    refine (sat_whole HL.out hlen HA3.out HL3.out).mono ?_
    rintro e w4 ⟨rfl, hA4⟩
    have HA4 : Hid (SAt w w4 Bw N g g' cx cr { F with mx := upd F.mx i m', mr := upd F.mr i m' } Bo kind A B (.slice a l.length cap)) := hA4
    clear hA4 HA3 HL3 ct3
    go_wp2_with fail
    refine (sat_is (F := { F with mx := upd F.mx i m', mr := upd F.mr i m' }) hi HT.out hw0 (HSAME.out i hi) HA4.out).mono ?_
    rintro e w5 ⟨rfl, hA5⟩
    go_wp2_with fail
    go_ret
    exact ⟨rfl, _, hA5.inv, HSAME.out⟩

end Go.Proofs.YtkmocjdjdlpphaaDoor
