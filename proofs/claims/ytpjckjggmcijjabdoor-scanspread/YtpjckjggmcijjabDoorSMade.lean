/-
  A word that is made, walked.
-/
import Derived.Test.YtpjckjggmcijjabDoorSLetters
namespace Go.Proofs.YtpjckjggmcijjabDoor
open Go.RowKit

attribute [local go_sem] Oper.semAt_some

theorem results_made (tmps : Array Value) (w : World) (g : Nat) (x : Value) (cs : Array Value) (h2 : tmps.getD 2 undef = x) (h3 : tmps.getD 3 undef = .pointer (some ⟨g, 0, none⟩)) (hg : w.heap[g]? = some (.cells cs 36 (0, 0))) (hs : cs.size = 3) :
    (results Tryd.f19 tmps).run Tryd.prog w = .ok (.tuple #[x, .agg cs]) w := by
  have h2' : tmps[2]?.getD undef = x := by simpa using h2
  have h3' : tmps[3]?.getD undef = .pointer (some ⟨g, 0, none⟩) := by simpa using h3
  have hl := run_loadVar_row (P := Tryd.prog) w g 36 36 cs (0, 0) _ hg Tryd.underlying36 rfl (by rw [infoWord, hs])
  simp [results, Tryd.results19, h2', h3', asAddr, hl]

/-- What made answers. -/
def MadeV (v : Value) : Prop := ∃ k x t, v = .tuple #[.string t, .agg #[.int .i64 (k : Nat), .string x, .int .i64 0]] ∧ WordIs k x t

set_option maxRecDepth 100000 in
set_option maxHeartbeats 2000000 in
theorem made_any (kd nn gp : Int) (ss : ByteArray) (hk1 : -9223372036854775808 ≤ kd) (hk2 : kd ≤ 9223372036854775807) (hn1 : -9223372036854775808 ≤ nn) (hn2 : nn ≤ 9223372036854775807) (w : World) :
    Calls Tryd.prog 19 #[.agg #[.int .i64 kd, .int .i64 nn, .int .i64 gp, .string ss]] w fun e w' => (∃ v, e = .returned v ∧ MadeV v) ∧ w.grownBy w' none := by
  go_enter Tryd.func19, Tryd.ntmps19
  go_wp2_with fail
  refine (pick_any kd hk1 hk2 4 (by decide) (by decide) _).mono ?_
  rintro e W ⟨⟨r, hr, rfl⟩, hW⟩
  subst hW
  obtain ⟨B, hB⟩ : ∃ B, (w.alloc (.cells #[.int .i64 kd, .int .i64 nn, .int .i64 gp, .string ss] 48)).alloc (.cells #[.int .i64 0, .string ⟨#[]⟩, .int .i64 0] 36) = B := ⟨_, rfl⟩
  have HG : Hid (w.grownBy B none) := by rw [← hB]; exact grown_trans (World.grownBy_alloc _ _ none) (World.grownBy_alloc _ _ none)
  have HW : Hid (B.heap[w.heap.size + 1]? = some (.cells #[.int .i64 0, .string ⟨#[]⟩, .int .i64 0] 36 (0, 0))) := by rw [← hB]; exact alloc2_new w _ _
  have hP : B.heap[w.heap.size]? = some (.cells #[.int .i64 kd, .int .i64 nn, .int .i64 gp, .string ss] 48 (0, 0)) := by
    rw [← hB]
    exact ((World.grownBy_alloc _ _ none).block _ (by rw [World.size_alloc]; omega) (by simp)).trans (heap_alloc_new w _)
  have p1 : B.cell? ⟨w.heap.size, 1, none⟩ = some (.int .i64 nn) := by rw [cell_of_row _ _ _ _ _ _ hP]; rfl
  have p3 : B.cell? ⟨w.heap.size, 3, none⟩ = some (.string ss) := by rw [cell_of_row _ _ _ _ _ _ hP]; rfl
  rw [hB]
  clear hB hP
  obtain rfl | rfl | rfl | rfl : r = 0 ∨ r = 1 ∨ r = 2 ∨ r = 3 := by omega
  · go_wp2_with fail
    refine (letters_any ss false B).mono ?_
    rintro e W2 ⟨⟨t, rfl, _, ht⟩, hg2⟩
    have HT : Hid (nameOK t = true) := ht rfl
    have HW2 : Hid (W2.heap[w.heap.size + 1]? = some (.cells #[.int .i64 0, .string ⟨#[]⟩, .int .i64 0] 36 (0, 0))) := (hg2.block _ (Array.getElem?_eq_some_iff.1 HW.out).1 (by simp)).trans HW.out
    have HG2 : Hid (w.grownBy W2 none) := grown_trans HG.out hg2
    obtain ⟨c0, c1, c2⟩ := three_cells HW2.out
    have hf := fun j => frozen_of_row W2 (w.heap.size + 1) j _ _ HW2.out
    clear ht hg2 HG HW p1 p3
    go_wp2_with fail
    refine bodyPost_ret (results_made _ _ (w.heap.size + 1) _ _ rfl rfl (set3_heap HW2.out) rfl) rfl ?_
    exact ⟨⟨_, rfl, 1, t, t, rfl, .name t HT.out⟩, grown_new HG2.out (grown_trans (grown_trans (grown_setCell _ _ _) (grown_setCell _ _ _)) (grown_setCell _ _ _)) (by omega)⟩
  · go_wp2_with fail
    refine (letters_any ss true B).mono ?_
    rintro e W2 ⟨⟨t, rfl, ht, _⟩, hg2⟩
    have HT : Hid (termOK t = true) := ht rfl
    have hts : t.size ≤ 16 := by
      have h' : (1 ≤ t.size ∧ t.size ≤ 16) ∧ runL termB (bs t) = t.size := by simpa [termOK] using ht rfl
      exact h'.1.2
    have HW2 : Hid (W2.heap[w.heap.size + 1]? = some (.cells #[.int .i64 0, .string ⟨#[]⟩, .int .i64 0] 36 (0, 0))) := (hg2.block _ (Array.getElem?_eq_some_iff.1 HW.out).1 (by simp)).trans HW.out
    have HG2 : Hid (w.grownBy W2 none) := grown_trans HG.out hg2
    obtain ⟨c0, c1, c2⟩ := three_cells HW2.out
    have hf := fun j => frozen_of_row W2 (w.heap.size + 1) j _ _ HW2.out
    clear ht hg2 HG HW p1 p3
    go_wp2_with fail
    refine bodyPost_ret (results_made _ _ (w.heap.size + 1) _ _ rfl rfl (set3_heap HW2.out) rfl) rfl ?_
    exact ⟨⟨_, rfl, 2, t, quotedB t, rfl, .quoted t HT.out⟩, grown_new HG2.out (grown_trans (grown_trans (grown_setCell _ _ _) (grown_setCell _ _ _)) (grown_setCell _ _ _)) (by omega)⟩
  · have p1a := fun o => (World.grownBy_alloc B o none).cell p1 (by simp)
    go_wp2_with fail
    have hga := World.grownBy_alloc B (.cells #[.string (ordAt 0), .string (ordAt 1), .string (ordAt 2), .string (ordAt 3), .string (ordAt 4), .string (ordAt 5), .string (ordAt 6)] 9) none
    have hrow := heap_alloc_new B (.cells #[.string (ordAt 0), .string (ordAt 1), .string (ordAt 2), .string (ordAt 3), .string (ordAt 4), .string (ordAt 5), .string (ordAt 6)] 9)
    refine (pick_any nn hn1 hn2 7 (by decide) (by decide) _).mono ?_
    rintro e W2 ⟨⟨r, hr, rfl⟩, hW2⟩
    have hW3 : W2 = B.alloc (.cells #[.string (ordAt 0), .string (ordAt 1), .string (ordAt 2), .string (ordAt 3), .string (ordAt 4), .string (ordAt 5), .string (ordAt 6)] 9) := hW2
    rw [← hW3] at hga hrow
    clear hW2 hW3
    have hcs := seven_cells hrow r hr
    have HW2 : Hid (W2.heap[w.heap.size + 1]? = some (.cells #[.int .i64 0, .string ⟨#[]⟩, .int .i64 0] 36 (0, 0))) := (hga.block _ (Array.getElem?_eq_some_iff.1 HW.out).1 (by simp)).trans HW.out
    have HG2 : Hid (w.grownBy W2 none) := grown_trans HG.out hga
    obtain ⟨c0, c1, c2⟩ := three_cells HW2.out
    have hf := fun j => frozen_of_row W2 (w.heap.size + 1) j _ _ HW2.out
    have HR : Hid (WordIs 3 (ordAt r) (ordAt r)) := .order r hr
    generalize ordAt r = od at *
    clear hga hrow HG HW p1 p3 p1a
    go_wp2_with fail
    refine bodyPost_ret (results_made _ _ (w.heap.size + 1) _ _ rfl rfl (set3_heap HW2.out) rfl) rfl ?_
    exact ⟨⟨_, rfl, 3, od, od, rfl, HR.out⟩, grown_new HG2.out (grown_trans (grown_trans (grown_setCell _ _ _) (grown_setCell _ _ _)) (grown_setCell _ _ _)) (by omega)⟩
  · go_wp2_with fail
    refine (pick_any nn hn1 hn2 3 (by decide) (by decide) _).mono ?_
    rintro e W2 ⟨⟨r, hr, rfl⟩, hW2⟩
    subst hW2
    obtain ⟨c0, c1, c2⟩ := three_cells HW.out
    have hf := fun j => frozen_of_row W2 (w.heap.size + 1) j _ _ HW.out
    clear p1 p3
    obtain rfl | rfl | rfl : r = 0 ∨ r = 1 ∨ r = 2 := by omega
    all_goals
      go_wp2_with fail
      refine bodyPost_ret (results_made _ _ (w.heap.size + 1) _ _ rfl rfl (set3_heap HW.out) rfl) rfl ?_
      exact ⟨⟨_, rfl, 4, _, _, rfl, .sign _ _ (by rfl) (by rfl)⟩, grown_new HG.out (grown_trans (grown_trans (grown_setCell _ _ _) (grown_setCell _ _ _)) (grown_setCell _ _ _)) (by omega)⟩

end Go.Proofs.YtpjckjggmcijjabDoor
