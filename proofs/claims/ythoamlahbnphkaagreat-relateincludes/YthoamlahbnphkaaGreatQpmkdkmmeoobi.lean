/-
  lr0: a map whose keys are items.
-/
import Derived.Test.YthoamlahbnphkaaGreatQbhbflfocdjab
import Derived.Maps.Keyed
import Derived.Maps.Own
import Derived.Maps.OwnSet
import Derived.Maps.Views
import Derived.DeepKeys4
namespace Go.Proofs.YthoamlahbnphkaaGreat.J
open Go.RowKit Go.Maps Go.Shelf

/-- An item as a value. -/
def aggI (x : It) : Value := .agg #[.int .i64 x.1, .int .i64 x.2]
theorem laidO : laidOutB Tryz.prog = true := by kernel_rfl
theorem rowItem : (69 : TypeId) < Tryz.prog.types.size := of_decide_eq_true (by kernel_rfl)
theorem wideItem : (match Tryz.prog.underlying 69 with | some (.array _ _) | some (.struct _) => true | _ => false) = true := by rw [Tryz.underlying69]
set_option maxRecDepth 100000 in
theorem lawItem : Keyed Tryz.prog 69 := Keyed.of_law (deep_law_laid laidO (m := 2) (by omega) rowItem (by kernel_rfl) wideItem)

theorem keyTItem : Tryz.prog.keyType 69 = true := by kernel_rfl
theorem cellsItem : Tryz.prog.cellsOf 69 = 2 := by kernel_rfl
theorem cellsInt : Tryz.prog.cellsOf 3 = 1 := by kernel_rfl
theorem size_of {n k : Nat} (h : k < n) : ∃ m, n = m + 1 := ⟨n - 1, by omega⟩
theorem sizeT : ∃ m, Tryz.prog.types.size = m + 1 := size_of rowItem
/-- Numbers that an int can be. -/
def I64 (x : It) : Prop := (Lit.int .i64 x.1).wf = true ∧ (Lit.int .i64 x.2).wf = true
theorem keyItem {x : It} (h : I64 x) : ∃ kl, keyOf Tryz.prog 69 (aggI x) = some kl := by
  obtain ⟨m, hm⟩ := sizeT
  refine ⟨.string (keyBytes [.int .i64 x.1, .int .i64 x.2]), ?_⟩
  unfold keyOf aggI
  simp only [Tryz.underlying69]
  rw [if_pos (by simp [keyTItem, Value.formed, Tryz.underlying69, cellsItem]), hm]
  unfold Program.keyLits
  simp only [Tryz.underlying69, Value.cells]
  rw [if_pos (by rw [cellsItem]; exact ⟨rfl, by kernel_rfl⟩)]
  simp [List.mapM_cons, List.mapM_nil, cellsInt, Program.keyLits, Tryz.underlying3, h.1, h.2]

def heldR (v : Value) : Option (DataW Value × List MemPlace) := some (.held v, [])
theorem aggI_inj {x y : It} (h : aggI x = aggI y) : x = y := by
  unfold aggI at h
  simp at h
  exact Prod.ext h.1 h.2

/-- A map in block b: what stands at each item. -/
def MpAt (w : World) (b n : Nat) (F : It → Value) : Prop := ∃ D : DataW Value, w.ownsMap Tryz.prog 69 heldR b n D ∧ ∀ x kl, keyOf Tryz.prog 69 (aggI x) = some kl → D.atKey kl (.held (.slice none 0 0)) = .held (F x)

theorem MpAt.made (w : World) : MpAt (w.alloc (.map #[] 0)) w.heap.size 0 (fun _ => .slice none 0 0) := ⟨_, World.ownsMap_made w _ _ _, fun x kl _ => by simp [DataW.atKey]⟩
theorem MpAt.kept {w w' : World} {row : Option Nat} {b n : Nat} {F : It → Value} (h : MpAt w b n F) (hg : w.grownBy w' row) (hne : some b ≠ row) : MpAt w' b n F := by
  obtain ⟨D, h1, h2⟩ := h
  exact ⟨D, h1.kept hg hne, h2⟩
theorem MpAt.set {w : World} {b n : Nat} {F : It → Value} (h : MpAt w b n F) {a : Addr} (ha : b ≠ a.block) (u : Value) : MpAt (w.setCell a u) b n F := by
  obtain ⟨D, h1, h2⟩ := h
  exact ⟨D, h1.setCell ha u, h2⟩
theorem MpAt.look {w : World} {b n : Nat} {F : It → Value} (h : MpAt w b n F) {x : It} (hx : I64 x) : (Instr.lookup 132 (.map (some b)) (aggI x) false).run Tryz.prog w = .ok (F x) w := by
  obtain ⟨D, h1, h2⟩ := h
  obtain ⟨kl, hk⟩ := keyItem hx
  obtain ⟨v, ps, hrun, hv⟩ := h1.lookup lawItem Tryz.underlying132 (z := .slice none 0 0) (by kernel_rfl) (zd := .held (.slice none 0 0)) (zp := []) rfl hk
  rw [h2 x kl hk] at hv
  simp only [heldR, Option.some.injEq, Prod.mk.injEq, DataW.held.injEq] at hv
  rw [hrun, hv.1]
/-- F with v at x. -/
noncomputable def putI (F : It → Value) (x : It) (v : Value) : It → Value := fun y => if y = x then v else F y
theorem MpAt.update {w : World} {b n : Nat} {F : It → Value} (h : MpAt w b n F) (hn : n < maxLen) {x : It} (hx : I64 x) (v : Value) : ∃ w', (Instr.mapUpdate 132 (.map (some b)) (aggI x) v).run Tryz.prog w = .ok () w' ∧ MpAt w' b (n + 1) (putI F x v) ∧ w.grownBy w' (some b) := by
  obtain ⟨D, h1, h2⟩ := h
  obtain ⟨kl, hk⟩ := keyItem hx
  obtain ⟨w', hrun, h3, h4⟩ := h1.update lawItem Tryz.underlying132 hn hk (val := v) (d := .held v) (ps := []) rfl
  refine ⟨w', hrun, ⟨_, h3, fun y ky hy => ?_⟩, h4⟩
  unfold putI
  by_cases e : y = x
  · subst e
    rw [hk] at hy
    cases hy
    rw [if_pos rfl, atKey_put_same h1.isMap (lawItem.key hk)]
  · rw [if_neg e, atKey_put_other (fun e2 => e (aggI_inj (lawItem.inj hy (by rw [e2]; exact hk)))), h2 y ky hy]

end Go.Proofs.YthoamlahbnphkaaGreat.J
