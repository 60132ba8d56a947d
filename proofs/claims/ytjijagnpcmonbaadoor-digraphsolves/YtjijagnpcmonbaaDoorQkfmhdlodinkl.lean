/-
  What the bound says of a grammar that came in: how long its lists are.
-/
import Derived.Test.YtjijagnpcmonbaaDoorRows
import Derived.Test.YtjijagnpcmonbaaDoorQbknnffblbpmh
namespace Go.Proofs.YtjijagnpcmonbaaDoor
open Go.ChangeShapes Go.WideShapes Go.ChangeAt Go.RowKit Go.Deep

theorem bulk_one {H : Type} (d : DataW H) : 1 ≤ Rows.uptoBulk d := by
  cases d with
  | lit l => cases l <;> simp [Rows.uptoBulk]
  | nil => simp [Rows.uptoBulk]
  | ptr d => simp [Rows.uptoBulk]
  | slice elems spare => simp [Rows.uptoBulk]
  | agg parts => simp [Rows.uptoBulk]
  | iface t d => simp [Rows.uptoBulk]
  | map entries => simp [Rows.uptoBulk]
  | held h => simp [Rows.uptoBulk]
theorem bulk_part {H : Type} {d : DataW H} : ∀ {l : List (DataW H)}, d ∈ l → Rows.uptoBulk d ≤ Rows.uptoBulkAll l
  | x :: r, h => by
    simp only [Rows.uptoBulkAll]
    rcases List.mem_cons.1 h with e | e
    · subst e; omega
    · have := bulk_part e; omega
theorem bulk_len {H : Type} : ∀ (l : List (DataW H)), l.length ≤ Rows.uptoBulkAll l
  | [] => by simp
  | x :: r => by have := bulk_one x; have := bulk_len r; simp only [Rows.uptoBulkAll, List.length_cons]; omega
theorem bulk_slice {H : Type} (elems spare : List (DataW H)) : elems.length + 1 ≤ Rows.uptoBulk (.slice elems spare) := by
  have := bulk_len elems
  simp only [Rows.uptoBulk]
  omega
section
variable {H : Type} {enc : TypeId × Value → H} {W : World} {fuel : Nat} {x : DataW H × List MemPlace} {a : Option Addr} {len cap : Nat}

theorem ints_bulk (h : DataW.trod enc Tryd.prog W 0 (fun _ => true) true fuel 28 [.slice a len cap] = some x) : len ≤ Rows.uptoBulk x.1 := by
  rcases open_ints Tryd.underlying28 Tryd.underlying3 cellsInt h with ⟨hcs, _⟩ | ⟨y, l, c, zs, hcs, _, hl, hm, hz, hx, _⟩
  · simp at hcs; omega
  · simp at hcs
    obtain ⟨_, rfl, rfl⟩ := hcs
    have hz' : zs.length = cap := by simpa using hz
    rw [hx]
    have := bulk_slice (lits (H := H) .i64 (zs.take len)) (lits (H := H) .i64 (zs.drop len))
    simp only [lits, List.length_map, List.length_take] at this
    simp only [lits]
    omega
end

end Go.Proofs.YtjijagnpcmonbaaDoor
