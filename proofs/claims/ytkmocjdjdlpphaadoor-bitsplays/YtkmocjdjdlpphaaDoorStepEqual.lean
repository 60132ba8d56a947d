/-
  A step of a script: Equal.
-/
import Derived.Test.YtkmocjdjdlpphaaDoorClass
namespace Go.Proofs.YtkmocjdjdlpphaaDoor
open Go.RowKit Go.Shelf

attribute [local go_sem] Oper.semAt_some

section
variable {w V : World} {Bw N g g' cx cr : Nat} {F : Fam} {Bo : Nat} {kind A B : Int} {sl : Value} {i j : Nat}
theorem sat_equal (hi : i < N) (hj : j < N) (h : SAt w V Bw N g g' cx cr F Bo kind A B sl) :
    Calls Tryd.prog 23 #[.pointer (some ⟨F.b i, 0, none⟩), .pointer (some ⟨F.b j, 0, none⟩)] V fun e w' => e = .returned (.bool (eqB (F.n i) (F.mx i) (F.n j) (F.mx j))) ∧ SAt w w' Bw N g g' cx cr F Bo kind A B sl := by
  refine (equal_any _ _ _ _ _ _ V (h.inv.sets i hi).2 (h.inv.sets j hj).2).mono ?_
  rintro e w' ⟨rfl, hb⟩
  exact ⟨rfl, h.keep hb⟩
theorem sat_requal (hS : Same N F) (hi : i < N) (hj : j < N) (h : SAt w V Bw N g g' cx cr F Bo kind A B sl) :
    Calls Tryd.prog 33 #[.pointer (some ⟨F.br i, 0, none⟩), .pointer (some ⟨F.br j, 0, none⟩)] V fun e w' => e = .returned (.bool (eqB (F.n i) (F.mx i) (F.n j) (F.mx j))) ∧ SAt w w' Bw N g g' cx cr F Bo kind A B sl := by
  have h1 := (h.inv.refs i hi).2
  have h2 := (h.inv.refs j hj).2
  rw [← hS i hi] at h1
  rw [← hS j hj] at h2
  refine (requal_any _ _ _ _ _ _ _ _ V h1 h2).mono ?_
  rintro e w' ⟨rfl, k, rfl⟩
  exact ⟨rfl, h.drewN k⟩
end

set_option maxRecDepth 100000 in
set_option maxHeartbeats 4000000 in
theorem play_equal (t : Int) (ht : t = 5 ∨ t = -5) (w W : World) (Bw N : Nat) (ax ar : Option Addr) (cx cr : Nat) (F : Fam) (kind A B : Int) (a : Option Addr) (cap len i j : Nat)
    (hI : PInv w W Bw N N (.slice ax N cx) (.slice ar N cr) F) (hS : Same N F) (hN : 0 < N) (hk : kind.tmod 8 = t)
    (hpi : ∀ wr, Calls Tryd.prog 17 #[.int .i64 A, .int .i64 (N : Int)] wr fun e w' => e = .returned (.int .i64 (i : Nat)) ∧ w' = wr) (hpj : ∀ wr, Calls Tryd.prog 17 #[.int .i64 B, .int .i64 (N : Int)] wr fun e w' => e = .returned (.int .i64 (j : Nat)) ∧ w' = wr)
    (hi : i < N) (_hj : j < N) :
    Calls Tryd.prog 8 #[.pointer (some ⟨Bw, 0, none⟩), .agg #[.int .i64 kind, .int .i64 A, .int .i64 B, .slice a len cap]] W fun e w' => e = .returned (.bool true) ∧ PInv w w' Bw N N (.slice ax N cx) (.slice ar N cr) F := by
  have hle := hI.le.1
  have hcx := hI.xcell
  have hcr := hI.rcell
  have hBlt := hI.blt
  obtain ⟨ax', cx', ex, hxs⟩ := hI.xform
  simp only [Value.slice.injEq, true_and] at ex
  obtain ⟨rfl, rfl⟩ := ex
  obtain ⟨ar', cr', er, hrs⟩ := hI.rform
  simp only [Value.slice.injEq, true_and] at er
  obtain ⟨rfl, rfl⟩ := er
  obtain ⟨g, rfl, hcg⟩ := hxs i hi
  obtain ⟨g', rfl, hcg'⟩ := hrs i hi
  have HI : Hid (PInv w W Bw N N (.slice (some ⟨g, 0, none⟩) N cx) (.slice (some ⟨g', 0, none⟩) N cr) F) := hI
  have HS : Hid (Same N F) := hS
  have HPI : Hid (∀ wr, Calls Tryd.prog 17 #[.int .i64 A, .int .i64 (N : Int)] wr fun e w' => e = .returned (.int .i64 (i : Nat)) ∧ w' = wr) := hpi
  have HPJ : Hid (∀ wr, Calls Tryd.prog 17 #[.int .i64 B, .int .i64 (N : Int)] wr fun e w' => e = .returned (.int .i64 (j : Nat)) ∧ w' = wr) := hpj
  clear hI hS hpi hpj hxs hrs
  rcases ht with rfl | rfl
  · go_enter Tryd.func8, Tryd.ntmps8
    go_wp2_with fail
    have hVb : Below W.heap.size W (W.alloc (.cells #[.int .i64 kind, .int .i64 A, .int .i64 B, .slice a len cap] 31)) := (Below.refl _ W).alloc (Nat.le_refl _) _
    have hbox : (W.alloc (.cells #[.int .i64 kind, .int .i64 A, .int .i64 B, .slice a len cap] 31)).heap[W.heap.size]? = some (.cells #[.int .i64 kind, .int .i64 A, .int .i64 B, .slice a len cap] 31 (0, 0)) := heap_alloc_last W _
    have HV : Hid (PInv w (W.alloc (.cells #[.int .i64 kind, .int .i64 A, .int .i64 B, .slice a len cap] 31)) Bw N N (.slice (some ⟨g, 0, none⟩) N cx) (.slice (some ⟨g', 0, none⟩) N cr) F) := HI.out.keep hVb
    have hcg1 : (W.alloc (.cells #[.int .i64 kind, .int .i64 A, .int .i64 B, .slice a len cap] 31)).cell? ⟨g, i, none⟩ = some (.pointer (some ⟨F.b i, 0, none⟩)) := (by rw [hVb.cell (by exact World.block_lt_of_cell? W _ hcg)]; exact hcg)
    have hcg2 : (W.alloc (.cells #[.int .i64 kind, .int .i64 A, .int .i64 B, .slice a len cap] 31)).cell? ⟨g', i, none⟩ = some (.pointer (some ⟨F.br i, 0, none⟩)) := (by rw [hVb.cell (by exact World.block_lt_of_cell? W _ hcg')]; exact hcg')
    have hcx1 := HV.out.xcell
    have hcr1 := HV.out.rcell
    have HBOX : Hid ((W.alloc (.cells #[.int .i64 kind, .int .i64 A, .int .i64 B, .slice a len cap] 31)).heap[W.heap.size]? = some (.cells #[.int .i64 kind, .int .i64 A, .int .i64 B, .slice a len cap] 31 (0, 0))) := hbox
    have hb0 := cell_of_row _ _ 0 _ _ _ hbox
    have hb1 := cell_of_row _ _ 1 _ _ _ hbox
    have hb2 := cell_of_row _ _ 2 _ _ _ hbox
    have hb3 := cell_of_row _ _ 3 _ _ _ hbox
    clear hVb hbox hcg hcg' hcx hcr HI
    generalize W.alloc (.cells #[.int .i64 kind, .int .i64 A, .int .i64 B, .slice a len cap] 31) = V at *
    generalize W.heap.size = Bo at *
    simp only [List.getElem?_toArray, List.getElem?_cons_zero, List.getElem?_cons_succ] at hb0 hb1 hb2 hb3
    go_quiet (first | (go_at_call 17; with_reducible exact Calls.quiet_of_same (HPI.out _)))
    have HV' : Hid (PInv w (V.drewN nq) Bw N N (.slice (some ⟨g, 0, none⟩) N cx) (.slice (some ⟨g', 0, none⟩) N cr) F) := HV.out.drewN nq
    have HBOX' : Hid ((V.drewN nq).heap[Bo]? = some (.cells #[.int .i64 kind, .int .i64 A, .int .i64 B, .slice a len cap] 31 (0, 0))) := HBOX.out
    have hcg1' : (V.drewN nq).cell? ⟨g, i, none⟩ = some (.pointer (some ⟨F.b i, 0, none⟩)) := hcg1
    have hcg2' : (V.drewN nq).cell? ⟨g', i, none⟩ = some (.pointer (some ⟨F.br i, 0, none⟩)) := hcg2
    clear HV HBOX hcg1 hcg2 hcx1 hcr1 hb0 hb1 hb2 hb3
    generalize V.drewN nq = V1 at *
    have hcx1 := HV'.out.xcell
    have hcr1 := HV'.out.rcell
    have hb0 := cell_of_row _ _ 0 _ _ _ HBOX'.out
    have hb1 := cell_of_row _ _ 1 _ _ _ HBOX'.out
    have hb2 := cell_of_row _ _ 2 _ _ _ HBOX'.out
    have hb3 := cell_of_row _ _ 3 _ _ _ HBOX'.out
    simp only [List.getElem?_toArray, List.getElem?_cons_zero, List.getElem?_cons_succ] at hb0 hb1 hb2 hb3
    go_wp2_with fail
    go_quiet (first | (go_at_call 17; with_reducible exact Calls.quiet_of_same (HPJ.out _)))
    have HV2 : Hid (PInv w (V1.drewN nq) Bw N N (.slice (some ⟨g, 0, none⟩) N cx) (.slice (some ⟨g', 0, none⟩) N cr) F) := HV'.out.drewN nq
    have HBOX2 : Hid ((V1.drewN nq).heap[Bo]? = some (.cells #[.int .i64 kind, .int .i64 A, .int .i64 B, .slice a len cap] 31 (0, 0))) := HBOX'.out
    have hcg3 : (V1.drewN nq).cell? ⟨g, i, none⟩ = some (.pointer (some ⟨F.b i, 0, none⟩)) := hcg1'
    have hcg4 : (V1.drewN nq).cell? ⟨g', i, none⟩ = some (.pointer (some ⟨F.br i, 0, none⟩)) := hcg2'
    clear HV' HBOX' hcg1' hcg2' hcx1 hcr1 hb0 hb1 hb2 hb3
    generalize V1.drewN nq = V2 at *
    have hcx1 := HV2.out.xcell
    have hcr1 := HV2.out.rcell
    have hb0 := cell_of_row _ _ 0 _ _ _ HBOX2.out
    have hb1 := cell_of_row _ _ 1 _ _ _ HBOX2.out
    have hb2 := cell_of_row _ _ 2 _ _ _ HBOX2.out
    have hb3 := cell_of_row _ _ 3 _ _ _ HBOX2.out
    simp only [List.getElem?_toArray, List.getElem?_cons_zero, List.getElem?_cons_succ] at hb0 hb1 hb2 hb3
    go_wp2_with fail
    have hA : SAt w V2 Bw N g g' cx cr F Bo kind A B (.slice a len cap) := ⟨HV2.out, HBOX2.out⟩
    haveI hne : Nonempty (WBox (fun v => SAt w v Bw N g g' cx cr F Bo kind A B (.slice a len cap))) := ⟨⟨_, hA.drew⟩⟩
    have hq : ∀ b : Bool, (b == b) = true := by simp
    have hqq := hq (eqB (F.n i) (F.mx i) (F.n j) (F.mx j))
    have c1 := fun s : WBox (fun v => SAt w v Bw N g g' cx cr F Bo kind A B (.slice a len cap)) => s.ok.xat j _hj
    have c2 := fun s : WBox (fun v => SAt w v Bw N g g' cx cr F Bo kind A B (.slice a len cap)) => s.ok.rat j _hj
    have c3 := fun s : WBox (fun v => SAt w v Bw N g g' cx cr F Bo kind A B (.slice a len cap)) => s.ok.xcell
    have c4 := fun s : WBox (fun v => SAt w v Bw N g g' cx cr F Bo kind A B (.slice a len cap)) => s.ok.rcell
    clear HV2 HBOX2 hcg3 hcg4 hcx1 hcr1 hb0 hb1 hb2 hb3 hq
    refine wp_region_class (p := fun v => SAt w v Bw N g g' cx cr F Bo kind A B (.slice a len cap)) (by kernel_rfl) (by kernel_rfl) hA.drew ?_
    repeat (go_big_quiet_step (first
      | (go_at_call 23; rename_i s; with_reducible exact calls_class (sat_equal hi _hj s.ok))
      | (go_at_call 33; rename_i s; with_reducible exact calls_class (sat_requal HS.out hi _hj s.ok))))
    refine wpQuiet_nil ?_
    rintro _ ⟨s, rfl⟩
    go_wp2_with fail
    go_ret
    exact ⟨rfl, s.ok.inv⟩
  · go_enter Tryd.func8, Tryd.ntmps8
    go_wp2_with fail
    have hVb : Below W.heap.size W (W.alloc (.cells #[.int .i64 kind, .int .i64 A, .int .i64 B, .slice a len cap] 31)) := (Below.refl _ W).alloc (Nat.le_refl _) _
    have hbox : (W.alloc (.cells #[.int .i64 kind, .int .i64 A, .int .i64 B, .slice a len cap] 31)).heap[W.heap.size]? = some (.cells #[.int .i64 kind, .int .i64 A, .int .i64 B, .slice a len cap] 31 (0, 0)) := heap_alloc_last W _
    have HV : Hid (PInv w (W.alloc (.cells #[.int .i64 kind, .int .i64 A, .int .i64 B, .slice a len cap] 31)) Bw N N (.slice (some ⟨g, 0, none⟩) N cx) (.slice (some ⟨g', 0, none⟩) N cr) F) := HI.out.keep hVb
    have hcg1 : (W.alloc (.cells #[.int .i64 kind, .int .i64 A, .int .i64 B, .slice a len cap] 31)).cell? ⟨g, i, none⟩ = some (.pointer (some ⟨F.b i, 0, none⟩)) := (by rw [hVb.cell (by exact World.block_lt_of_cell? W _ hcg)]; exact hcg)
    have hcg2 : (W.alloc (.cells #[.int .i64 kind, .int .i64 A, .int .i64 B, .slice a len cap] 31)).cell? ⟨g', i, none⟩ = some (.pointer (some ⟨F.br i, 0, none⟩)) := (by rw [hVb.cell (by exact World.block_lt_of_cell? W _ hcg')]; exact hcg')
    have hcx1 := HV.out.xcell
    have hcr1 := HV.out.rcell
    have HBOX : Hid ((W.alloc (.cells #[.int .i64 kind, .int .i64 A, .int .i64 B, .slice a len cap] 31)).heap[W.heap.size]? = some (.cells #[.int .i64 kind, .int .i64 A, .int .i64 B, .slice a len cap] 31 (0, 0))) := hbox
    have hb0 := cell_of_row _ _ 0 _ _ _ hbox
    have hb1 := cell_of_row _ _ 1 _ _ _ hbox
    have hb2 := cell_of_row _ _ 2 _ _ _ hbox
    have hb3 := cell_of_row _ _ 3 _ _ _ hbox
    clear hVb hbox hcg hcg' hcx hcr HI
    generalize W.alloc (.cells #[.int .i64 kind, .int .i64 A, .int .i64 B, .slice a len cap] 31) = V at *
    generalize W.heap.size = Bo at *
    simp only [List.getElem?_toArray, List.getElem?_cons_zero, List.getElem?_cons_succ] at hb0 hb1 hb2 hb3
    go_quiet (first | (go_at_call 17; with_reducible exact Calls.quiet_of_same (HPI.out _)))
    have HV' : Hid (PInv w (V.drewN nq) Bw N N (.slice (some ⟨g, 0, none⟩) N cx) (.slice (some ⟨g', 0, none⟩) N cr) F) := HV.out.drewN nq
    have HBOX' : Hid ((V.drewN nq).heap[Bo]? = some (.cells #[.int .i64 kind, .int .i64 A, .int .i64 B, .slice a len cap] 31 (0, 0))) := HBOX.out
    have hcg1' : (V.drewN nq).cell? ⟨g, i, none⟩ = some (.pointer (some ⟨F.b i, 0, none⟩)) := hcg1
    have hcg2' : (V.drewN nq).cell? ⟨g', i, none⟩ = some (.pointer (some ⟨F.br i, 0, none⟩)) := hcg2
    clear HV HBOX hcg1 hcg2 hcx1 hcr1 hb0 hb1 hb2 hb3
    generalize V.drewN nq = V1 at *
    have hcx1 := HV'.out.xcell
    have hcr1 := HV'.out.rcell
    have hb0 := cell_of_row _ _ 0 _ _ _ HBOX'.out
    have hb1 := cell_of_row _ _ 1 _ _ _ HBOX'.out
    have hb2 := cell_of_row _ _ 2 _ _ _ HBOX'.out
    have hb3 := cell_of_row _ _ 3 _ _ _ HBOX'.out
    simp only [List.getElem?_toArray, List.getElem?_cons_zero, List.getElem?_cons_succ] at hb0 hb1 hb2 hb3
    go_wp2_with fail
    go_quiet (first | (go_at_call 17; with_reducible exact Calls.quiet_of_same (HPJ.out _)))
    have HV2 : Hid (PInv w (V1.drewN nq) Bw N N (.slice (some ⟨g, 0, none⟩) N cx) (.slice (some ⟨g', 0, none⟩) N cr) F) := HV'.out.drewN nq
    have HBOX2 : Hid ((V1.drewN nq).heap[Bo]? = some (.cells #[.int .i64 kind, .int .i64 A, .int .i64 B, .slice a len cap] 31 (0, 0))) := HBOX'.out
    have hcg3 : (V1.drewN nq).cell? ⟨g, i, none⟩ = some (.pointer (some ⟨F.b i, 0, none⟩)) := hcg1'
    have hcg4 : (V1.drewN nq).cell? ⟨g', i, none⟩ = some (.pointer (some ⟨F.br i, 0, none⟩)) := hcg2'
    clear HV' HBOX' hcg1' hcg2' hcx1 hcr1 hb0 hb1 hb2 hb3
    generalize V1.drewN nq = V2 at *
    have hcx1 := HV2.out.xcell
    have hcr1 := HV2.out.rcell
    have hb0 := cell_of_row _ _ 0 _ _ _ HBOX2.out
    have hb1 := cell_of_row _ _ 1 _ _ _ HBOX2.out
    have hb2 := cell_of_row _ _ 2 _ _ _ HBOX2.out
    have hb3 := cell_of_row _ _ 3 _ _ _ HBOX2.out
    simp only [List.getElem?_toArray, List.getElem?_cons_zero, List.getElem?_cons_succ] at hb0 hb1 hb2 hb3
    go_wp2_with fail
    have hA : SAt w V2 Bw N g g' cx cr F Bo kind A B (.slice a len cap) := ⟨HV2.out, HBOX2.out⟩
    haveI hne : Nonempty (WBox (fun v => SAt w v Bw N g g' cx cr F Bo kind A B (.slice a len cap))) := ⟨⟨_, hA.drew⟩⟩
    have hq : ∀ b : Bool, (b == b) = true := by simp
    have hqq := hq (eqB (F.n i) (F.mx i) (F.n j) (F.mx j))
    have c1 := fun s : WBox (fun v => SAt w v Bw N g g' cx cr F Bo kind A B (.slice a len cap)) => s.ok.xat j _hj
    have c2 := fun s : WBox (fun v => SAt w v Bw N g g' cx cr F Bo kind A B (.slice a len cap)) => s.ok.rat j _hj
    have c3 := fun s : WBox (fun v => SAt w v Bw N g g' cx cr F Bo kind A B (.slice a len cap)) => s.ok.xcell
    have c4 := fun s : WBox (fun v => SAt w v Bw N g g' cx cr F Bo kind A B (.slice a len cap)) => s.ok.rcell
    clear HV2 HBOX2 hcg3 hcg4 hcx1 hcr1 hb0 hb1 hb2 hb3 hq
    refine wp_region_class (p := fun v => SAt w v Bw N g g' cx cr F Bo kind A B (.slice a len cap)) (by kernel_rfl) (by kernel_rfl) hA.drew ?_
    repeat (go_big_quiet_step (first
      | (go_at_call 23; rename_i s; with_reducible exact calls_class (sat_equal hi _hj s.ok))
      | (go_at_call 33; rename_i s; with_reducible exact calls_class (sat_requal HS.out hi _hj s.ok))))
    refine wpQuiet_nil ?_
    rintro _ ⟨s, rfl⟩
    go_wp2_with fail
    go_ret
    exact ⟨rfl, s.ok.inv⟩

end Go.Proofs.YtkmocjdjdlpphaaDoor
