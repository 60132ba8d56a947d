/-
  A copy of a text; how a reader takes some bytes.
-/
import Derived.Test.YtpjckjggmcijjabDoorSReader
import Derived.Lib.Strings
import Derived.Shelf.Pu.Clone
namespace Go.Proofs.YtpjckjggmcijjabDoor
open Go.RowKit

attribute [local go_sem] Oper.semAt_some

theorem infoByte : (Tryd.prog.info? 5).map (fun i => (i.zero, i.size, i.bytes)) = some (some (.int .u8 0), 1, 1) := by kernel_rfl

set_option maxHeartbeats 1000000 in
set_option maxRecDepth 100000 in
theorem cloneL_any (s : ByteArray) (w : World) (hs : s.size ≤ 10000) : Calls Tryd.prog 50 #[.string s] w fun e w' => e = .returned (.string s) ∧ w.grownBy w' none := by
  by_cases h0 : s.size = 0
  · have hs : s = ⟨#[]⟩ := ByteArray.ext (Array.eq_empty_of_size_eq_zero h0)
    subst hs
    go_enter Tryd.func50, Tryd.ntmps50
    go_wp2_with fail
    go_ret
    exact ⟨rfl, grown_refl _ _⟩
  · obtain ⟨i0, hi, hz0, hz1, hz2⟩ := info_parts infoByte
    have hinfo : (Tryd.prog.info? 5).map (·.size) = some 1 := by rw [hi]; simp [hz1]
    have hco : Tryd.prog.cellsOf 5 = 1 := by kernel_rfl
    obtain ⟨M, hM⟩ : ∃ M, M = madeCells (Value.int .u8 0).cells (((s.size : Nat) : Int).toNat * i0.size) := ⟨_, rfl⟩
    have hMs : M.size = s.size := by rw [hM, size_madeCells, hz1]; simp
    have hmk : ∀ W : World, (Instr.makeSlice 64 (.int .i64 (s.size : Int)) (.int .i64 (s.size : Int))).run Tryd.prog W = .ok (.slice (some ⟨W.heap.size, 0, none⟩) s.size s.size) (W.alloc (.cells M 5)) := fun W => by
      have h := run_make (P := Tryd.prog) W 64 5 i0 (.int .u8 0) Tryd.underlying64 hi hz0 .i64 .i64 (s.size : Int) (s.size : Int) (by omega) (by omega) (by rw [hz2]; omega) (by omega)
      rw [← hM] at h
      simpa using h
    clear hM
    have hcp := Lib.run_copy_row_string (P := Tryd.prog) (w.alloc (.cells M 5)) 64 9 3 5 w.heap.size 0 s.size s.size s M 5 Tryd.underlying64 hinfo (heap_alloc_new w _) (Nat.le_refl _) (by omega)
    obtain ⟨Y, hY⟩ : ∃ Y, Y = (M.toList.take 0 ++ Lib.byteCells s.data.toList ++ M.toList.drop (0 + s.size)).toArray := ⟨_, rfl⟩
    rw [← hY] at hcp
    have hYl : Y.toList = Lib.byteCells s.data.toList := by
      rw [hY, List.toList_toArray, List.take_zero, List.nil_append, List.drop_of_length_le (by rw [Array.length_toList]; omega), List.append_nil]
    have hYs : Y.size = s.size := by rw [← Array.length_toList, hYl, Lib.byteCells_length, ← Lib.size_eq]
    have hgY : ((w.alloc (.cells M 5)).setRow w.heap.size Y).heap[w.heap.size]? = some (.cells Y 5 (0, 0)) := setRow_heap _ _ M _ 5 (0, 0) (heap_alloc_new w _)
    have hne : s.data.toList ≠ [] := fun e => h0 (by rw [Lib.size_eq, e]; rfl)
    have hUS := Lib.run_unsafeString_row (P := Tryd.prog) ((w.alloc (.cells M 5)).setRow w.heap.size Y) 72 3 9 5 Tryd.underlying72 hco w.heap.size Y.size (by unfold World.shape?; rw [hgY]) s.data.toList hne (by rw [← Lib.size_eq]; omega) (by rw [← Lib.size_eq]; omega)
      (fun j x hx => Lib.cells_of_row hgY Y.size j _ (by rw [List.take_of_length_le (by rw [Array.length_toList]; exact Nat.le_refl _), hYl]; simp [Lib.byteCells, hx]))
    rw [← Lib.size_eq] at hUS
    clear hY
    go_enter Tryd.func50, Tryd.ntmps50
    go_wp2
    go_ret
    have hb1 : Below w.heap.size w (w.alloc (.cells M 5)) := (Below.refl _ w).alloc (Nat.le_refl _) _
    have hb2 : Below w.heap.size (w.alloc (.cells M 5)) ((w.alloc (.cells M 5)).setRow w.heap.size Y) := ⟨rfl, rfl, rfl, by simp, fun k hk => setRow_other _ _ _ _ (by omega)⟩
    exact ⟨rfl, below_grown (Lib.below_freeze (hb1.trans hb2) (p := ⟨w.heap.size, 0, none⟩) (Nat.le_refl _) _)⟩

theorem clone_any (s : ByteArray) (w : World) (hs : s.size ≤ 10000) : Calls Tryd.prog 49 #[.string s] w fun e w' => e = .returned (.string s) ∧ w.grownBy w' none := by
  have hC := cloneL_any s w hs
  go_enter Tryd.func49, Tryd.ntmps49
  go_wp2_with (go_at_call 50; refine hC.mono ?_; rintro e w' ⟨rfl, hg⟩)
  go_ret
  exact ⟨rfl, hg⟩

theorem ext_size (s : ByteArray) (i j : Nat) (h : j ≤ s.size) : (s.extract i j).size = j - i := by
  rw [ByteArray.size_extract]; omega
theorem ext_ext (s : ByteArray) (i n : Nat) (_h : i + n ≤ s.size) : (s.extract i s.size).extract 0 n = s.extract i (i + n) := by
  apply bs_inj
  have e : (bs s).take s.size = bs s := List.take_of_length_le (by rw [bs_length]; exact Nat.le_refl _)
  rw [bs_extract, bs_extract, bs_extract, List.drop_zero, e, List.drop_take]
  congr 1
  omega

set_option maxRecDepth 100000 in
theorem take_any (r : Nat) (s : ByteArray) (i n : Nat) (b : Bool) (w : World) (h : RAt w r s i b) (hn : i + n ≤ s.size) (hs : s.size ≤ 10000) : Calls Tryd.prog 47 #[.pointer (some ⟨r, 0, none⟩), .int .i64 n] w fun e w' => e = .returned (.string (s.extract i (i + n))) ∧ RAt w' r s (i + n) b ∧ w.grownBy w' (some r) := by
  have hR := rest_any r s i b w h (by omega) hs
  have hsz := ext_size s i s.size (Nat.le_refl _)
  have hsl := ext_ext s i n hn
  have hcl := fun W => clone_any (s.extract i (i + n)) W (by rw [ext_size s i (i + n) hn]; omega)
  have HCL : Hid (∀ W, Calls Tryd.prog 49 #[.string (s.extract i (i + n))] W fun e w' => e = .returned (.string (s.extract i (i + n))) ∧ W.grownBy w' none) := hcl
  generalize s.extract i s.size = t at *
  rw [← hsl]
  rw [← hsl] at HCL
  clear hsl hcl
  have HA : Hid (RAt w r s i b) := h
  clear h
  go_enter Tryd.func47, Tryd.ntmps47
  go_wp2_with fail
  refine hR.mono ?_
  rintro e w1 ⟨rfl, q, hw1⟩
  have HA1 : Hid (RAt w1 r s i b) := by rw [hw1]; exact HA.out.drewN q
  have HG1 : Hid (w.grownBy w1 none) := by rw [hw1]; exact grown_drewN _ _
  clear hw1 HA hR
  obtain ⟨c0, c1, c2⟩ := HA1.out.cells
  have f1 := HA1.out.free 1
  have hb1 : (n : Int) ≤ t.size := by omega
  go_wp2_with fail
  refine (HCL.out _).mono ?_
  rintro e w2 ⟨rfl, hg2⟩
  have HFIN : Hid (RAt w2 r s (i + n) b ∧ w.grownBy w2 (some r)) := ⟨(HA1.out.setAt (i + n)).kept hg2, grown_trans (grown_trans (grown_but _ HG1.out) (grown_setCell r 1 _)) (grown_but _ hg2)⟩
  clear hg2 HA1 HG1 HCL c0 c1 c2 f1
  go_wp2_with fail
  go_ret
  exact ⟨rfl, HFIN.out⟩

end Go.Proofs.YtpjckjggmcijjabDoor
