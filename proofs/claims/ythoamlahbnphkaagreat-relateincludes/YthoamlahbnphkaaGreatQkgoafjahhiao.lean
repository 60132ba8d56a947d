/-
  lr0: newMaker.
-/
import Derived.Test.YthoamlahbnphkaaGreatQpmkdkmmeoobi
import Derived.Test.YthoamlahbnphkaaGreatQdoliolgblefd
namespace Go.Proofs.YthoamlahbnphkaaGreat.J
open Go.RowKit Go.Maps Go.Shelf

attribute [local go_sem] Oper.semAt_some

theorem mk_laid (w : World) (o1 o3 : Obj) : (((w.alloc o1).alloc (.map #[] 0)).alloc o3).heap[w.heap.size + 1 + 1]? = some o3 ∧ MpAt (((w.alloc o1).alloc (.map #[] 0)).alloc o3) (w.heap.size + 1) 0 (fun _ => .slice none 0 0) := by
  have e1 : ∀ (X : World) (o : Obj), (X.alloc o).heap.size = X.heap.size + 1 := fun X o => by simp
  constructor
  · rw [← e1 w o1, ← e1 (w.alloc o1) (.map #[] 0)]
    exact heap_alloc_last _ _
  · rw [← e1 w o1]
    exact (MpAt.made _).kept (World.grownBy_alloc _ _ none) (by simp)

set_option maxRecDepth 100000 in
theorem newMaker_any (ta na la pa : Option Addr) (tc nc lc pc : Nat) (n : Nat) (st : Int) (w : World) (tn nn ln : Nat) :
    Calls Tryz.prog 45 #[.agg #[.slice ta tn tc, .slice na nn nc, .slice la ln lc, .int .i64 st, .slice pa n pc]] w fun e y => ∃ mb bm : Nat, e = .returned (.pointer (some ⟨mb, 0, none⟩)) ∧ y.heap[mb]? = some (.cells #[.slice ta tn tc, .slice na nn nc, .slice la ln lc, .int .i64 st, .slice pa n pc, .slice none 0 0, .int .i64 0, .int .i64 0, .map (some bm)] 134 (0, 0)) ∧ MpAt y bm 0 (fun _ => .slice none 0 0) ∧ w.heap.size ≤ bm ∧ bm < mb ∧ w.grownBy y none := by
  have HG0 : Hid (w.grownBy (w.alloc (.cells #[.slice ta tn tc, .slice na nn nc, .slice la ln lc, .int .i64 st, .slice pa n pc] 27)) none) := World.grownBy_alloc _ _ none
  have hmm := @run_makeMap Tryz.prog
  go_enter Tryz.func45, Tryz.ntmps45
  go_wp2_with fail
  go_ret
  exact ⟨w.heap.size + 1 + 1, w.heap.size + 1, rfl, (mk_laid w _ _).1, (mk_laid w _ _).2, by omega, by omega, grown_trans HG0.out (grown_trans (World.grownBy_alloc _ _ none) (World.grownBy_alloc _ _ none))⟩

end Go.Proofs.YthoamlahbnphkaaGreat.J
