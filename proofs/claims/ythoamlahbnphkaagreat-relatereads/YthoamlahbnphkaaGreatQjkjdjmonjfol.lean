import Derived.Test.YthoamlahbnphkaaGreatQpbmaenlcbhnk
import Derived.Test.YthoamlahbnphkaaGreatQmjhdgmanfmoo
import Derived.Test.YthoamlahbnphkaaGreatQlgpgjabchlle
import Derived.Test.YthoamlahbnphkaaGreatQkokofadagjba

/-
  relate: the law's small grammar. (Printed by tools/usmallgen.py.)
-/
namespace Go.Proofs.YthoamlahbnphkaaGreat.J
open Go.RowKit Go.Maps Go.Shelf

attribute [local go_sem] Oper.semAt_some

def vTs : List (ByteArray × Int) := [(⟨#[]⟩, 0), (⟨#[120]⟩, 0), (⟨#[121]⟩, 0)]
def vNs : List ByteArray := [⟨#[]⟩, ⟨#[115]⟩, ⟨#[97]⟩, ⟨#[98]⟩]
def vL (i : Nat) : Int := if i = 0 then 3 else if i = 1 then 4 else if i = 2 then 4 else if i = 3 then 5 else 6
def vR (i : Nat) : List Int := if i = 0 then [4] else if i = 1 then [5, 4, 6] else if i = 2 then [1] else if i = 5 then [2] else []

theorem v_gat {Z : World} {b1 b2 b3 b4 b5 b6 b7 : Nat} (h1 : Z.heap[b1]? = some (.cells #[.string ⟨#[]⟩, .int .i64 0, .string ⟨#[120]⟩, .int .i64 0, .string ⟨#[121]⟩, .int .i64 0] 88 (0, 0))) (h2 : Z.heap[b2]? = some (.cells #[.string ⟨#[]⟩, .string ⟨#[115]⟩, .string ⟨#[97]⟩, .string ⟨#[98]⟩] 9 (0, 0))) (h3 : Z.heap[b3]? = some (.cells #[.int .i64 4] 3 (0, 0))) (h4 : Z.heap[b4]? = some (.cells #[.int .i64 5, .int .i64 4, .int .i64 6] 3 (0, 0))) (h5 : Z.heap[b5]? = some (.cells #[.int .i64 1] 3 (0, 0))) (h6 : Z.heap[b6]? = some (.cells #[.int .i64 2] 3 (0, 0))) (h7 : Z.heap[b7]? = some (.cells #[.int .i64 3, .slice (some ⟨b3, 0, none⟩) 1 1, .int .i64 0, .int .i64 4, .slice (some ⟨b4, 0, none⟩) 3 3, .int .i64 0, .int .i64 4, .slice (some ⟨b5, 0, none⟩) 1 1, .int .i64 0, .int .i64 5, .slice none 0 0, .int .i64 0, .int .i64 6, .slice none 0 0, .int .i64 0, .int .i64 6, .slice (some ⟨b6, 0, none⟩) 1 1, .int .i64 0] 71 (0, 0))) :
    ∃ ra rc, GAt Z (some ⟨b1, 0, none⟩) (some ⟨b2, 0, none⟩) none (some ⟨b7, 0, none⟩) 3 4 0 6 vTs vNs [] 6 vL vR ra rc (fun _ => 0) := by
  refine ⟨fun i => if i = 0 then some ⟨b3, 0, none⟩ else if i = 1 then some ⟨b4, 0, none⟩ else if i = 2 then some ⟨b5, 0, none⟩ else if i = 5 then some ⟨b6, 0, none⟩ else none, fun i => if i = 1 then 3 else if i = 3 then 0 else if i = 4 then 0 else 1, .inr ⟨_, 0, rfl, fun i hi => ?_⟩, .inr ⟨_, 0, rfl, fun i hi => ?_⟩, .inl rfl, .inr ⟨_, 0, rfl, fun k hk => ?_⟩, by decide, by decide, by decide, (fun h => by cases h), (fun h => by cases h), by decide, by decide, by decide, by decide⟩
  · have h8 : i = 0 ∨ i = 1 ∨ i = 2 := by simp [vTs] at hi; omega
    rcases h8 with rfl | rfl | rfl <;> exact ⟨by rw [cell_of_row _ _ _ _ _ _ h1]; rfl, by rw [cell_of_row _ _ _ _ _ _ h1]; rfl⟩
  · have h8 : i = 0 ∨ i = 1 ∨ i = 2 ∨ i = 3 := by simp [vNs] at hi; omega
    rcases h8 with rfl | rfl | rfl | rfl <;> (rw [cell_of_row _ _ _ _ _ _ h2]; rfl)
  · have h8 : k = 0 ∨ k = 1 ∨ k = 2 ∨ k = 3 ∨ k = 4 ∨ k = 5 := by omega
    rcases h8 with rfl | rfl | rfl | rfl | rfl | rfl
    · refine ⟨by rw [cell_of_row _ _ _ _ _ _ h7]; rfl, by rw [cell_of_row _ _ _ _ _ _ h7]; rfl, by rw [cell_of_row _ _ _ _ _ _ h7]; rfl, .inr ⟨b3, 0, rfl, fun i hi => ?_⟩, (fun h => by cases h), by decide⟩
      have h9 : i = 0 := by simp [vR] at hi; omega
      subst h9
      rw [cell_of_row _ _ _ _ _ _ h3]; rfl
    · refine ⟨by rw [cell_of_row _ _ _ _ _ _ h7]; rfl, by rw [cell_of_row _ _ _ _ _ _ h7]; rfl, by rw [cell_of_row _ _ _ _ _ _ h7]; rfl, .inr ⟨b4, 0, rfl, fun i hi => ?_⟩, (fun h => by cases h), by decide⟩
      have h9 : i = 0 ∨ i = 1 ∨ i = 2 := by simp [vR] at hi; omega
      rcases h9 with rfl | rfl | rfl <;> (rw [cell_of_row _ _ _ _ _ _ h4]; rfl)
    · refine ⟨by rw [cell_of_row _ _ _ _ _ _ h7]; rfl, by rw [cell_of_row _ _ _ _ _ _ h7]; rfl, by rw [cell_of_row _ _ _ _ _ _ h7]; rfl, .inr ⟨b5, 0, rfl, fun i hi => ?_⟩, (fun h => by cases h), by decide⟩
      have h9 : i = 0 := by simp [vR] at hi; omega
      subst h9
      rw [cell_of_row _ _ _ _ _ _ h5]; rfl
    · exact ⟨by rw [cell_of_row _ _ _ _ _ _ h7]; rfl, by rw [cell_of_row _ _ _ _ _ _ h7]; rfl, by rw [cell_of_row _ _ _ _ _ _ h7]; rfl, .inl rfl, (fun _ => by decide), by decide⟩
    · exact ⟨by rw [cell_of_row _ _ _ _ _ _ h7]; rfl, by rw [cell_of_row _ _ _ _ _ _ h7]; rfl, by rw [cell_of_row _ _ _ _ _ _ h7]; rfl, .inl rfl, (fun _ => by decide), by decide⟩
    · refine ⟨by rw [cell_of_row _ _ _ _ _ _ h7]; rfl, by rw [cell_of_row _ _ _ _ _ _ h7]; rfl, by rw [cell_of_row _ _ _ _ _ _ h7]; rfl, .inr ⟨b6, 0, rfl, fun i hi => ?_⟩, (fun h => by cases h), by decide⟩
      have h9 : i = 0 := by simp [vR] at hi; omega
      subst h9
      rw [cell_of_row _ _ _ _ _ _ h6]; rfl

theorem v_chain (w : World) (cs : Array Value) : (((((((((w.alloc (.cells cs 27)).alloc (.cells #[.string ⟨#[]⟩, .int .i64 0, .string ⟨#[120]⟩, .int .i64 0, .string ⟨#[121]⟩, .int .i64 0] 88)).alloc (.cells #[.string ⟨#[]⟩, .string ⟨#[115]⟩, .string ⟨#[97]⟩, .string ⟨#[98]⟩] 9)).alloc (.cells #[.int .i64 4] 3)).alloc (.cells #[.int .i64 5, .int .i64 4, .int .i64 6] 3)).alloc (.cells #[.int .i64 1] 3)).alloc (.cells #[.int .i64 2] 3)).alloc (.cells #[.int .i64 3, .slice (some ⟨w.heap.size + 1 + 1 + 1, 0, none⟩) 1 1, .int .i64 0, .int .i64 4, .slice (some ⟨w.heap.size + 1 + 1 + 1 + 1, 0, none⟩) 3 3, .int .i64 0, .int .i64 4, .slice (some ⟨w.heap.size + 1 + 1 + 1 + 1 + 1, 0, none⟩) 1 1, .int .i64 0, .int .i64 5, .slice none 0 0, .int .i64 0, .int .i64 6, .slice none 0 0, .int .i64 0, .int .i64 6, .slice (some ⟨w.heap.size + 1 + 1 + 1 + 1 + 1 + 1, 0, none⟩) 1 1, .int .i64 0] 71)).heap[w.heap.size]? = some (.cells cs 27 (0, 0)) ∧ ((((((((w.alloc (.cells cs 27)).alloc (.cells #[.string ⟨#[]⟩, .int .i64 0, .string ⟨#[120]⟩, .int .i64 0, .string ⟨#[121]⟩, .int .i64 0] 88)).alloc (.cells #[.string ⟨#[]⟩, .string ⟨#[115]⟩, .string ⟨#[97]⟩, .string ⟨#[98]⟩] 9)).alloc (.cells #[.int .i64 4] 3)).alloc (.cells #[.int .i64 5, .int .i64 4, .int .i64 6] 3)).alloc (.cells #[.int .i64 1] 3)).alloc (.cells #[.int .i64 2] 3)).alloc (.cells #[.int .i64 3, .slice (some ⟨w.heap.size + 1 + 1 + 1, 0, none⟩) 1 1, .int .i64 0, .int .i64 4, .slice (some ⟨w.heap.size + 1 + 1 + 1 + 1, 0, none⟩) 3 3, .int .i64 0, .int .i64 4, .slice (some ⟨w.heap.size + 1 + 1 + 1 + 1 + 1, 0, none⟩) 1 1, .int .i64 0, .int .i64 5, .slice none 0 0, .int .i64 0, .int .i64 6, .slice none 0 0, .int .i64 0, .int .i64 6, .slice (some ⟨w.heap.size + 1 + 1 + 1 + 1 + 1 + 1, 0, none⟩) 1 1, .int .i64 0] 71)).heap[w.heap.size + 1]? = some (.cells #[.string ⟨#[]⟩, .int .i64 0, .string ⟨#[120]⟩, .int .i64 0, .string ⟨#[121]⟩, .int .i64 0] 88 (0, 0)) ∧ ((((((((w.alloc (.cells cs 27)).alloc (.cells #[.string ⟨#[]⟩, .int .i64 0, .string ⟨#[120]⟩, .int .i64 0, .string ⟨#[121]⟩, .int .i64 0] 88)).alloc (.cells #[.string ⟨#[]⟩, .string ⟨#[115]⟩, .string ⟨#[97]⟩, .string ⟨#[98]⟩] 9)).alloc (.cells #[.int .i64 4] 3)).alloc (.cells #[.int .i64 5, .int .i64 4, .int .i64 6] 3)).alloc (.cells #[.int .i64 1] 3)).alloc (.cells #[.int .i64 2] 3)).alloc (.cells #[.int .i64 3, .slice (some ⟨w.heap.size + 1 + 1 + 1, 0, none⟩) 1 1, .int .i64 0, .int .i64 4, .slice (some ⟨w.heap.size + 1 + 1 + 1 + 1, 0, none⟩) 3 3, .int .i64 0, .int .i64 4, .slice (some ⟨w.heap.size + 1 + 1 + 1 + 1 + 1, 0, none⟩) 1 1, .int .i64 0, .int .i64 5, .slice none 0 0, .int .i64 0, .int .i64 6, .slice none 0 0, .int .i64 0, .int .i64 6, .slice (some ⟨w.heap.size + 1 + 1 + 1 + 1 + 1 + 1, 0, none⟩) 1 1, .int .i64 0] 71)).heap[w.heap.size + 1 + 1]? = some (.cells #[.string ⟨#[]⟩, .string ⟨#[115]⟩, .string ⟨#[97]⟩, .string ⟨#[98]⟩] 9 (0, 0)) ∧ ((((((((w.alloc (.cells cs 27)).alloc (.cells #[.string ⟨#[]⟩, .int .i64 0, .string ⟨#[120]⟩, .int .i64 0, .string ⟨#[121]⟩, .int .i64 0] 88)).alloc (.cells #[.string ⟨#[]⟩, .string ⟨#[115]⟩, .string ⟨#[97]⟩, .string ⟨#[98]⟩] 9)).alloc (.cells #[.int .i64 4] 3)).alloc (.cells #[.int .i64 5, .int .i64 4, .int .i64 6] 3)).alloc (.cells #[.int .i64 1] 3)).alloc (.cells #[.int .i64 2] 3)).alloc (.cells #[.int .i64 3, .slice (some ⟨w.heap.size + 1 + 1 + 1, 0, none⟩) 1 1, .int .i64 0, .int .i64 4, .slice (some ⟨w.heap.size + 1 + 1 + 1 + 1, 0, none⟩) 3 3, .int .i64 0, .int .i64 4, .slice (some ⟨w.heap.size + 1 + 1 + 1 + 1 + 1, 0, none⟩) 1 1, .int .i64 0, .int .i64 5, .slice none 0 0, .int .i64 0, .int .i64 6, .slice none 0 0, .int .i64 0, .int .i64 6, .slice (some ⟨w.heap.size + 1 + 1 + 1 + 1 + 1 + 1, 0, none⟩) 1 1, .int .i64 0] 71)).heap[w.heap.size + 1 + 1 + 1]? = some (.cells #[.int .i64 4] 3 (0, 0)) ∧ ((((((((w.alloc (.cells cs 27)).alloc (.cells #[.string ⟨#[]⟩, .int .i64 0, .string ⟨#[120]⟩, .int .i64 0, .string ⟨#[121]⟩, .int .i64 0] 88)).alloc (.cells #[.string ⟨#[]⟩, .string ⟨#[115]⟩, .string ⟨#[97]⟩, .string ⟨#[98]⟩] 9)).alloc (.cells #[.int .i64 4] 3)).alloc (.cells #[.int .i64 5, .int .i64 4, .int .i64 6] 3)).alloc (.cells #[.int .i64 1] 3)).alloc (.cells #[.int .i64 2] 3)).alloc (.cells #[.int .i64 3, .slice (some ⟨w.heap.size + 1 + 1 + 1, 0, none⟩) 1 1, .int .i64 0, .int .i64 4, .slice (some ⟨w.heap.size + 1 + 1 + 1 + 1, 0, none⟩) 3 3, .int .i64 0, .int .i64 4, .slice (some ⟨w.heap.size + 1 + 1 + 1 + 1 + 1, 0, none⟩) 1 1, .int .i64 0, .int .i64 5, .slice none 0 0, .int .i64 0, .int .i64 6, .slice none 0 0, .int .i64 0, .int .i64 6, .slice (some ⟨w.heap.size + 1 + 1 + 1 + 1 + 1 + 1, 0, none⟩) 1 1, .int .i64 0] 71)).heap[w.heap.size + 1 + 1 + 1 + 1]? = some (.cells #[.int .i64 5, .int .i64 4, .int .i64 6] 3 (0, 0)) ∧ ((((((((w.alloc (.cells cs 27)).alloc (.cells #[.string ⟨#[]⟩, .int .i64 0, .string ⟨#[120]⟩, .int .i64 0, .string ⟨#[121]⟩, .int .i64 0] 88)).alloc (.cells #[.string ⟨#[]⟩, .string ⟨#[115]⟩, .string ⟨#[97]⟩, .string ⟨#[98]⟩] 9)).alloc (.cells #[.int .i64 4] 3)).alloc (.cells #[.int .i64 5, .int .i64 4, .int .i64 6] 3)).alloc (.cells #[.int .i64 1] 3)).alloc (.cells #[.int .i64 2] 3)).alloc (.cells #[.int .i64 3, .slice (some ⟨w.heap.size + 1 + 1 + 1, 0, none⟩) 1 1, .int .i64 0, .int .i64 4, .slice (some ⟨w.heap.size + 1 + 1 + 1 + 1, 0, none⟩) 3 3, .int .i64 0, .int .i64 4, .slice (some ⟨w.heap.size + 1 + 1 + 1 + 1 + 1, 0, none⟩) 1 1, .int .i64 0, .int .i64 5, .slice none 0 0, .int .i64 0, .int .i64 6, .slice none 0 0, .int .i64 0, .int .i64 6, .slice (some ⟨w.heap.size + 1 + 1 + 1 + 1 + 1 + 1, 0, none⟩) 1 1, .int .i64 0] 71)).heap[w.heap.size + 1 + 1 + 1 + 1 + 1]? = some (.cells #[.int .i64 1] 3 (0, 0)) ∧ ((((((((w.alloc (.cells cs 27)).alloc (.cells #[.string ⟨#[]⟩, .int .i64 0, .string ⟨#[120]⟩, .int .i64 0, .string ⟨#[121]⟩, .int .i64 0] 88)).alloc (.cells #[.string ⟨#[]⟩, .string ⟨#[115]⟩, .string ⟨#[97]⟩, .string ⟨#[98]⟩] 9)).alloc (.cells #[.int .i64 4] 3)).alloc (.cells #[.int .i64 5, .int .i64 4, .int .i64 6] 3)).alloc (.cells #[.int .i64 1] 3)).alloc (.cells #[.int .i64 2] 3)).alloc (.cells #[.int .i64 3, .slice (some ⟨w.heap.size + 1 + 1 + 1, 0, none⟩) 1 1, .int .i64 0, .int .i64 4, .slice (some ⟨w.heap.size + 1 + 1 + 1 + 1, 0, none⟩) 3 3, .int .i64 0, .int .i64 4, .slice (some ⟨w.heap.size + 1 + 1 + 1 + 1 + 1, 0, none⟩) 1 1, .int .i64 0, .int .i64 5, .slice none 0 0, .int .i64 0, .int .i64 6, .slice none 0 0, .int .i64 0, .int .i64 6, .slice (some ⟨w.heap.size + 1 + 1 + 1 + 1 + 1 + 1, 0, none⟩) 1 1, .int .i64 0] 71)).heap[w.heap.size + 1 + 1 + 1 + 1 + 1 + 1]? = some (.cells #[.int .i64 2] 3 (0, 0)) ∧ ((((((((w.alloc (.cells cs 27)).alloc (.cells #[.string ⟨#[]⟩, .int .i64 0, .string ⟨#[120]⟩, .int .i64 0, .string ⟨#[121]⟩, .int .i64 0] 88)).alloc (.cells #[.string ⟨#[]⟩, .string ⟨#[115]⟩, .string ⟨#[97]⟩, .string ⟨#[98]⟩] 9)).alloc (.cells #[.int .i64 4] 3)).alloc (.cells #[.int .i64 5, .int .i64 4, .int .i64 6] 3)).alloc (.cells #[.int .i64 1] 3)).alloc (.cells #[.int .i64 2] 3)).alloc (.cells #[.int .i64 3, .slice (some ⟨w.heap.size + 1 + 1 + 1, 0, none⟩) 1 1, .int .i64 0, .int .i64 4, .slice (some ⟨w.heap.size + 1 + 1 + 1 + 1, 0, none⟩) 3 3, .int .i64 0, .int .i64 4, .slice (some ⟨w.heap.size + 1 + 1 + 1 + 1 + 1, 0, none⟩) 1 1, .int .i64 0, .int .i64 5, .slice none 0 0, .int .i64 0, .int .i64 6, .slice none 0 0, .int .i64 0, .int .i64 6, .slice (some ⟨w.heap.size + 1 + 1 + 1 + 1 + 1 + 1, 0, none⟩) 1 1, .int .i64 0] 71)).heap[w.heap.size + 1 + 1 + 1 + 1 + 1 + 1 + 1]? = some (.cells #[.int .i64 3, .slice (some ⟨w.heap.size + 1 + 1 + 1, 0, none⟩) 1 1, .int .i64 0, .int .i64 4, .slice (some ⟨w.heap.size + 1 + 1 + 1 + 1, 0, none⟩) 3 3, .int .i64 0, .int .i64 4, .slice (some ⟨w.heap.size + 1 + 1 + 1 + 1 + 1, 0, none⟩) 1 1, .int .i64 0, .int .i64 5, .slice none 0 0, .int .i64 0, .int .i64 6, .slice none 0 0, .int .i64 0, .int .i64 6, .slice (some ⟨w.heap.size + 1 + 1 + 1 + 1 + 1 + 1, 0, none⟩) 1 1, .int .i64 0] 71 (0, 0))) ∧ w.grownBy ((((((((w.alloc (.cells cs 27)).alloc (.cells #[.string ⟨#[]⟩, .int .i64 0, .string ⟨#[120]⟩, .int .i64 0, .string ⟨#[121]⟩, .int .i64 0] 88)).alloc (.cells #[.string ⟨#[]⟩, .string ⟨#[115]⟩, .string ⟨#[97]⟩, .string ⟨#[98]⟩] 9)).alloc (.cells #[.int .i64 4] 3)).alloc (.cells #[.int .i64 5, .int .i64 4, .int .i64 6] 3)).alloc (.cells #[.int .i64 1] 3)).alloc (.cells #[.int .i64 2] 3)).alloc (.cells #[.int .i64 3, .slice (some ⟨w.heap.size + 1 + 1 + 1, 0, none⟩) 1 1, .int .i64 0, .int .i64 4, .slice (some ⟨w.heap.size + 1 + 1 + 1 + 1, 0, none⟩) 3 3, .int .i64 0, .int .i64 4, .slice (some ⟨w.heap.size + 1 + 1 + 1 + 1 + 1, 0, none⟩) 1 1, .int .i64 0, .int .i64 5, .slice none 0 0, .int .i64 0, .int .i64 6, .slice none 0 0, .int .i64 0, .int .i64 6, .slice (some ⟨w.heap.size + 1 + 1 + 1 + 1 + 1 + 1, 0, none⟩) 1 1, .int .i64 0] 71)) none := by
  have g0 := World.grownBy_alloc w (.cells cs 27) none
  have c0 := heap_alloc_last w (.cells cs 27)
  have g1 := World.grownBy_alloc (w.alloc (.cells cs 27)) (.cells #[.string ⟨#[]⟩, .int .i64 0, .string ⟨#[120]⟩, .int .i64 0, .string ⟨#[121]⟩, .int .i64 0] 88) none
  have c1 := heap_alloc_last (w.alloc (.cells cs 27)) (.cells #[.string ⟨#[]⟩, .int .i64 0, .string ⟨#[120]⟩, .int .i64 0, .string ⟨#[121]⟩, .int .i64 0] 88)
  rw [World.size_alloc] at c1
  have g2 := World.grownBy_alloc ((w.alloc (.cells cs 27)).alloc (.cells #[.string ⟨#[]⟩, .int .i64 0, .string ⟨#[120]⟩, .int .i64 0, .string ⟨#[121]⟩, .int .i64 0] 88)) (.cells #[.string ⟨#[]⟩, .string ⟨#[115]⟩, .string ⟨#[97]⟩, .string ⟨#[98]⟩] 9) none
  have c2 := heap_alloc_last ((w.alloc (.cells cs 27)).alloc (.cells #[.string ⟨#[]⟩, .int .i64 0, .string ⟨#[120]⟩, .int .i64 0, .string ⟨#[121]⟩, .int .i64 0] 88)) (.cells #[.string ⟨#[]⟩, .string ⟨#[115]⟩, .string ⟨#[97]⟩, .string ⟨#[98]⟩] 9)
  rw [World.size_alloc, World.size_alloc] at c2
  have g3 := World.grownBy_alloc (((w.alloc (.cells cs 27)).alloc (.cells #[.string ⟨#[]⟩, .int .i64 0, .string ⟨#[120]⟩, .int .i64 0, .string ⟨#[121]⟩, .int .i64 0] 88)).alloc (.cells #[.string ⟨#[]⟩, .string ⟨#[115]⟩, .string ⟨#[97]⟩, .string ⟨#[98]⟩] 9)) (.cells #[.int .i64 4] 3) none
  have c3 := heap_alloc_last (((w.alloc (.cells cs 27)).alloc (.cells #[.string ⟨#[]⟩, .int .i64 0, .string ⟨#[120]⟩, .int .i64 0, .string ⟨#[121]⟩, .int .i64 0] 88)).alloc (.cells #[.string ⟨#[]⟩, .string ⟨#[115]⟩, .string ⟨#[97]⟩, .string ⟨#[98]⟩] 9)) (.cells #[.int .i64 4] 3)
  rw [World.size_alloc, World.size_alloc, World.size_alloc] at c3
  have g4 := World.grownBy_alloc ((((w.alloc (.cells cs 27)).alloc (.cells #[.string ⟨#[]⟩, .int .i64 0, .string ⟨#[120]⟩, .int .i64 0, .string ⟨#[121]⟩, .int .i64 0] 88)).alloc (.cells #[.string ⟨#[]⟩, .string ⟨#[115]⟩, .string ⟨#[97]⟩, .string ⟨#[98]⟩] 9)).alloc (.cells #[.int .i64 4] 3)) (.cells #[.int .i64 5, .int .i64 4, .int .i64 6] 3) none
  have c4 := heap_alloc_last ((((w.alloc (.cells cs 27)).alloc (.cells #[.string ⟨#[]⟩, .int .i64 0, .string ⟨#[120]⟩, .int .i64 0, .string ⟨#[121]⟩, .int .i64 0] 88)).alloc (.cells #[.string ⟨#[]⟩, .string ⟨#[115]⟩, .string ⟨#[97]⟩, .string ⟨#[98]⟩] 9)).alloc (.cells #[.int .i64 4] 3)) (.cells #[.int .i64 5, .int .i64 4, .int .i64 6] 3)
  rw [World.size_alloc, World.size_alloc, World.size_alloc, World.size_alloc] at c4
  have g5 := World.grownBy_alloc (((((w.alloc (.cells cs 27)).alloc (.cells #[.string ⟨#[]⟩, .int .i64 0, .string ⟨#[120]⟩, .int .i64 0, .string ⟨#[121]⟩, .int .i64 0] 88)).alloc (.cells #[.string ⟨#[]⟩, .string ⟨#[115]⟩, .string ⟨#[97]⟩, .string ⟨#[98]⟩] 9)).alloc (.cells #[.int .i64 4] 3)).alloc (.cells #[.int .i64 5, .int .i64 4, .int .i64 6] 3)) (.cells #[.int .i64 1] 3) none
  have c5 := heap_alloc_last (((((w.alloc (.cells cs 27)).alloc (.cells #[.string ⟨#[]⟩, .int .i64 0, .string ⟨#[120]⟩, .int .i64 0, .string ⟨#[121]⟩, .int .i64 0] 88)).alloc (.cells #[.string ⟨#[]⟩, .string ⟨#[115]⟩, .string ⟨#[97]⟩, .string ⟨#[98]⟩] 9)).alloc (.cells #[.int .i64 4] 3)).alloc (.cells #[.int .i64 5, .int .i64 4, .int .i64 6] 3)) (.cells #[.int .i64 1] 3)
  rw [World.size_alloc, World.size_alloc, World.size_alloc, World.size_alloc, World.size_alloc] at c5
  have g6 := World.grownBy_alloc ((((((w.alloc (.cells cs 27)).alloc (.cells #[.string ⟨#[]⟩, .int .i64 0, .string ⟨#[120]⟩, .int .i64 0, .string ⟨#[121]⟩, .int .i64 0] 88)).alloc (.cells #[.string ⟨#[]⟩, .string ⟨#[115]⟩, .string ⟨#[97]⟩, .string ⟨#[98]⟩] 9)).alloc (.cells #[.int .i64 4] 3)).alloc (.cells #[.int .i64 5, .int .i64 4, .int .i64 6] 3)).alloc (.cells #[.int .i64 1] 3)) (.cells #[.int .i64 2] 3) none
  have c6 := heap_alloc_last ((((((w.alloc (.cells cs 27)).alloc (.cells #[.string ⟨#[]⟩, .int .i64 0, .string ⟨#[120]⟩, .int .i64 0, .string ⟨#[121]⟩, .int .i64 0] 88)).alloc (.cells #[.string ⟨#[]⟩, .string ⟨#[115]⟩, .string ⟨#[97]⟩, .string ⟨#[98]⟩] 9)).alloc (.cells #[.int .i64 4] 3)).alloc (.cells #[.int .i64 5, .int .i64 4, .int .i64 6] 3)).alloc (.cells #[.int .i64 1] 3)) (.cells #[.int .i64 2] 3)
  rw [World.size_alloc, World.size_alloc, World.size_alloc, World.size_alloc, World.size_alloc, World.size_alloc] at c6
  have g7 := World.grownBy_alloc (((((((w.alloc (.cells cs 27)).alloc (.cells #[.string ⟨#[]⟩, .int .i64 0, .string ⟨#[120]⟩, .int .i64 0, .string ⟨#[121]⟩, .int .i64 0] 88)).alloc (.cells #[.string ⟨#[]⟩, .string ⟨#[115]⟩, .string ⟨#[97]⟩, .string ⟨#[98]⟩] 9)).alloc (.cells #[.int .i64 4] 3)).alloc (.cells #[.int .i64 5, .int .i64 4, .int .i64 6] 3)).alloc (.cells #[.int .i64 1] 3)).alloc (.cells #[.int .i64 2] 3)) (.cells #[.int .i64 3, .slice (some ⟨w.heap.size + 1 + 1 + 1, 0, none⟩) 1 1, .int .i64 0, .int .i64 4, .slice (some ⟨w.heap.size + 1 + 1 + 1 + 1, 0, none⟩) 3 3, .int .i64 0, .int .i64 4, .slice (some ⟨w.heap.size + 1 + 1 + 1 + 1 + 1, 0, none⟩) 1 1, .int .i64 0, .int .i64 5, .slice none 0 0, .int .i64 0, .int .i64 6, .slice none 0 0, .int .i64 0, .int .i64 6, .slice (some ⟨w.heap.size + 1 + 1 + 1 + 1 + 1 + 1, 0, none⟩) 1 1, .int .i64 0] 71) none
  have c7 := heap_alloc_last (((((((w.alloc (.cells cs 27)).alloc (.cells #[.string ⟨#[]⟩, .int .i64 0, .string ⟨#[120]⟩, .int .i64 0, .string ⟨#[121]⟩, .int .i64 0] 88)).alloc (.cells #[.string ⟨#[]⟩, .string ⟨#[115]⟩, .string ⟨#[97]⟩, .string ⟨#[98]⟩] 9)).alloc (.cells #[.int .i64 4] 3)).alloc (.cells #[.int .i64 5, .int .i64 4, .int .i64 6] 3)).alloc (.cells #[.int .i64 1] 3)).alloc (.cells #[.int .i64 2] 3)) (.cells #[.int .i64 3, .slice (some ⟨w.heap.size + 1 + 1 + 1, 0, none⟩) 1 1, .int .i64 0, .int .i64 4, .slice (some ⟨w.heap.size + 1 + 1 + 1 + 1, 0, none⟩) 3 3, .int .i64 0, .int .i64 4, .slice (some ⟨w.heap.size + 1 + 1 + 1 + 1 + 1, 0, none⟩) 1 1, .int .i64 0, .int .i64 5, .slice none 0 0, .int .i64 0, .int .i64 6, .slice none 0 0, .int .i64 0, .int .i64 6, .slice (some ⟨w.heap.size + 1 + 1 + 1 + 1 + 1 + 1, 0, none⟩) 1 1, .int .i64 0] 71)
  rw [World.size_alloc, World.size_alloc, World.size_alloc, World.size_alloc, World.size_alloc, World.size_alloc, World.size_alloc] at c7
  have c0 := (boxKept c0 g1).out
  have c0 := (boxKept c0 g2).out
  have c0 := (boxKept c0 g3).out
  have c0 := (boxKept c0 g4).out
  have c0 := (boxKept c0 g5).out
  have c0 := (boxKept c0 g6).out
  have c0 := (boxKept c0 g7).out
  have c1 := (boxKept c1 g2).out
  have c1 := (boxKept c1 g3).out
  have c1 := (boxKept c1 g4).out
  have c1 := (boxKept c1 g5).out
  have c1 := (boxKept c1 g6).out
  have c1 := (boxKept c1 g7).out
  have c2 := (boxKept c2 g3).out
  have c2 := (boxKept c2 g4).out
  have c2 := (boxKept c2 g5).out
  have c2 := (boxKept c2 g6).out
  have c2 := (boxKept c2 g7).out
  have c3 := (boxKept c3 g4).out
  have c3 := (boxKept c3 g5).out
  have c3 := (boxKept c3 g6).out
  have c3 := (boxKept c3 g7).out
  have c4 := (boxKept c4 g5).out
  have c4 := (boxKept c4 g6).out
  have c4 := (boxKept c4 g7).out
  have c5 := (boxKept c5 g6).out
  have c5 := (boxKept c5 g7).out
  have c6 := (boxKept c6 g7).out
  exact ⟨⟨c0, c1, c2, c3, c4, c5, c6, c7⟩, (grown_trans g0 (grown_trans g1 (grown_trans g2 (grown_trans g3 (grown_trans g4 (grown_trans g5 (grown_trans g6 g7)))))))⟩

set_option maxRecDepth 100000 in
set_option maxHeartbeats 1000000 in
theorem vsmall_any (w : World) : Calls Tryz.prog 25 #[] w fun e y => ∃ b1 b2 b7 ra rc, e = .returned (.agg #[.slice (some ⟨b1, 0, none⟩) 3 3, .slice (some ⟨b2, 0, none⟩) 4 4, .slice none 0 0, .int .i64 4, .slice (some ⟨b7, 0, none⟩) 6 6]) ∧ GAt y (some ⟨b1, 0, none⟩) (some ⟨b2, 0, none⟩) none (some ⟨b7, 0, none⟩) 3 4 0 6 vTs vNs [] 6 vL vR ra rc (fun _ => 0) ∧ w.grownBy y none := by
  have HC := show Hid _ from v_chain w #[.slice (some ⟨w.heap.size + 1, 0, none⟩) 3 3, .slice (some ⟨w.heap.size + 1 + 1, 0, none⟩) 4 4, .slice none 0 0, .int .i64 4, .slice (some ⟨w.heap.size + 1 + 1 + 1 + 1 + 1 + 1 + 1, 0, none⟩) 6 6]
  go_enter Tryz.func25, Tryz.ntmps25
  go_wp2_with fail
  obtain ⟨⟨c0, c1, c2, c3, c4, c5, c6, c7⟩, hg⟩ := HC.out
  obtain ⟨ra, rc, hG⟩ := v_gat c1 c2 c3 c4 c5 c6 c7
  exact bodyPost_ret (v := .agg #[.slice (some ⟨w.heap.size + 1, 0, none⟩) 3 3, .slice (some ⟨w.heap.size + 1 + 1, 0, none⟩) 4 4, .slice none 0 0, .int .i64 4, .slice (some ⟨w.heap.size + 1 + 1 + 1 + 1 + 1 + 1 + 1, 0, none⟩) 6 6]) (results_cell_row (fr := (0, 0)) rfl _ _ w.heap.size 27 #[.slice (some ⟨w.heap.size + 1, 0, none⟩) 3 3, .slice (some ⟨w.heap.size + 1 + 1, 0, none⟩) 4 4, .slice none 0 0, .int .i64 4, .slice (some ⟨w.heap.size + 1 + 1 + 1 + 1 + 1 + 1 + 1, 0, none⟩) 6 6] _ rfl c0 Tryz.underlying27 rfl infoGramK) rfl ⟨_, _, _, ra, rc, rfl, hG, hg⟩

theorem v_closed : closedOK vTs vNs [] 4 6 vL vR (fun _ => 0) := by
  refine ⟨⟨by decide, rfl, by decide, rfl, rfl, rfl⟩, ⟨by decide, by decide, by decide, by decide, by decide, by decide, ⟨⟨by decide, rfl⟩, fun i h1 h2 => ?_⟩, fun j hj => absurd hj (Nat.not_lt_zero j), fun i h1 h2 => ?_, fun i h1 h2 => ?_, rfl, ⟨by decide, by decide⟩⟩⟩
  · have h3 : i = 1 ∨ i = 2 := by simp [vTs] at h2; omega
    rcases h3 with rfl | rfl
    · exact ⟨⟨by rfl, by decide, by decide⟩, fun k h4 h5 => absurd h5 (by omega)⟩
    · refine ⟨⟨by rfl, by decide, by decide⟩, fun k h4 h5 => ?_⟩
      have h6 : k = 1 := by omega
      subst h6
      decide
  · have h3 : i = 1 ∨ i = 2 ∨ i = 3 := by simp [vNs] at h2; omega
    rcases h3 with rfl | rfl | rfl
    · exact ⟨by rfl, fun k h4 h5 => absurd h5 (by omega)⟩
    · refine ⟨by rfl, fun k h4 h5 => ?_⟩
      have h6 : k = 1 := by omega
      subst h6
      decide
    · refine ⟨by rfl, fun k h4 h5 => ?_⟩
      have h6 : k = 1 ∨ k = 2 := by omega
      rcases h6 with rfl | rfl <;> decide
  · have h3 : i = 1 ∨ i = 2 ∨ i = 3 ∨ i = 4 ∨ i = 5 := by omega
    rcases h3 with rfl | rfl | rfl | rfl | rfl
    · refine ⟨⟨by decide, by decide⟩, ⟨by decide, by decide⟩, ?_⟩
      intro x hx
      simp [vR] at hx
      rcases hx with rfl | rfl | rfl
      · exact .inr ⟨by decide, by decide⟩
      · exact .inr ⟨by decide, by decide⟩
      · exact .inr ⟨by decide, by decide⟩
    · refine ⟨⟨by decide, by decide⟩, ⟨by decide, by decide⟩, ?_⟩
      intro x hx
      simp [vR] at hx
      subst hx
      exact .inl ⟨by decide, by decide⟩
    · exact ⟨⟨by decide, by decide⟩, ⟨by decide, by decide⟩, fun x hx => absurd hx (by simp [vR])⟩
    · exact ⟨⟨by decide, by decide⟩, ⟨by decide, by decide⟩, fun x hx => absurd hx (by simp [vR])⟩
    · refine ⟨⟨by decide, by decide⟩, ⟨by decide, by decide⟩, ?_⟩
      intro x hx
      simp [vR] at hx
      subst hx
      exact .inl ⟨by decide, by decide⟩

def vCl (k : List It) : List It := if k = [(0, 0)] then [(0, 0), (1, 0), (2, 0), (3, 0)] else if k = [(1, 1)] then [(1, 0), (1, 1), (2, 0), (3, 0)] else if k = [(1, 2)] then [(1, 2), (4, 0), (5, 0)] else k
def vKs : List (List It) := [[(0, 0)], [(2, 1)], [(0, 1)], [(1, 1)], [(1, 2)], [(5, 1)], [(1, 3)]]
def vEs : List (List (Nat × Nat)) := [[(1, 1), (4, 2), (5, 3)], [], [], [(1, 1), (4, 4), (5, 3)], [(2, 5), (6, 6)], [], []]

theorem v_six {k : Nat} (h : k < 6) : k = 0 ∨ k = 1 ∨ k = 2 ∨ k = 3 ∨ k = 4 ∨ k = 5 := by omega
theorem v_clo : ∀ k ∈ vKs, IsClo 3 6 vL vR k (vCl k) := by
  intro k hk
  simp only [vKs, List.mem_cons, List.not_mem_nil, or_false] at hk
  rcases hk with rfl | rfl | rfl | rfl | rfl | rfl | rfl
  · refine isClo_mk (by simp [vCl, Asc, ltI]) (by simp [vCl]) (fun x hx => ?_) (fun y hy k hk h1 h2 => ?_)
    · have h0 : Clo 3 6 vL vR [((0 : Int), (0 : Int))] ((0 : Int), (0 : Int)) := Clo.base (by simp)
      have h1 : Clo 3 6 vL vR [((0 : Int), (0 : Int))] ((1 : Int), (0 : Int)) := h0.step (k := 1) (by decide) (by decide) (by decide)
      simp [vCl] at hx
      rcases hx with rfl | rfl | rfl | rfl
      · exact h0
      · exact h1
      · exact h0.step (k := 2) (by decide) (by decide) (by decide)
      · exact h1.step (k := 3) (by decide) (by decide) (by decide)
    · simp [vCl] at hy
      rcases hy with rfl | rfl | rfl | rfl <;> rcases v_six hk with rfl | rfl | rfl | rfl | rfl | rfl <;> first | (simp [vCl]; done) | exact absurd h2 (by decide) | exact absurd h1 (by decide)
  · refine isClo_self (by simp [Asc, ltI]) (fun y hy => ?_)
    simp at hy
    subst hy; decide
  · refine isClo_self (by simp [Asc, ltI]) (fun y hy => ?_)
    simp at hy
    subst hy; decide
  · refine isClo_mk (by simp [vCl, Asc, ltI]) (by simp [vCl]) (fun x hx => ?_) (fun y hy k hk h1 h2 => ?_)
    · have h0 : Clo 3 6 vL vR [((1 : Int), (1 : Int))] ((1 : Int), (1 : Int)) := Clo.base (by simp)
      have h1 : Clo 3 6 vL vR [((1 : Int), (1 : Int))] ((1 : Int), (0 : Int)) := h0.step (k := 1) (by decide) (by decide) (by decide)
      simp [vCl] at hx
      rcases hx with rfl | rfl | rfl | rfl
      · exact h1
      · exact h0
      · exact h0.step (k := 2) (by decide) (by decide) (by decide)
      · exact h1.step (k := 3) (by decide) (by decide) (by decide)
    · simp [vCl] at hy
      rcases hy with rfl | rfl | rfl | rfl <;> rcases v_six hk with rfl | rfl | rfl | rfl | rfl | rfl <;> first | (simp [vCl]; done) | exact absurd h2 (by decide) | exact absurd h1 (by decide)
  · refine isClo_mk (by simp [vCl, Asc, ltI]) (by simp [vCl]) (fun x hx => ?_) (fun y hy k hk h1 h2 => ?_)
    · have h0 : Clo 3 6 vL vR [((1 : Int), (2 : Int))] ((1 : Int), (2 : Int)) := Clo.base (by simp)
      simp [vCl] at hx
      rcases hx with rfl | rfl | rfl
      · exact h0
      · exact h0.step (k := 4) (by decide) (by decide) (by decide)
      · exact h0.step (k := 5) (by decide) (by decide) (by decide)
    · simp [vCl] at hy
      rcases hy with rfl | rfl | rfl <;> rcases v_six hk with rfl | rfl | rfl | rfl | rfl | rfl <;> first | (simp [vCl]; done) | exact absurd h2 (by decide) | exact absurd h1 (by decide)
  · refine isClo_self (by simp [Asc, ltI]) (fun y hy => ?_)
    simp at hy
    subst hy; decide
  · refine isClo_self (by simp [Asc, ltI]) (fun y hy => ?_)
    simp at hy
    subst hy; decide

theorem v_auto {CL : List It → List It} (h : ∀ k ∈ vKs, IsClo 3 6 vL vR k (CL k)) : autoF (fun k (s : Nat) => kerT vR (CL k) (s : Int)) 7 256 = some (vKs, vEs) := by
  have hc : ∀ k ∈ vKs, CL k = vCl k := fun k hk => (h k hk).unique (v_clo k hk)
  have c0 := hc [(0, 0)] (by simp [vKs])
  have c1 := hc [(2, 1)] (by simp [vKs])
  have c2 := hc [(0, 1)] (by simp [vKs])
  have c3 := hc [(1, 1)] (by simp [vKs])
  have c4 := hc [(1, 2)] (by simp [vKs])
  have c5 := hc [(5, 1)] (by simp [vKs])
  have c6 := hc [(1, 3)] (by simp [vKs])
  obtain ⟨G, hG⟩ : ∃ G : List It → Nat → List It, G = fun k (s : Nat) => kerT vR (CL k) (s : Int) := ⟨_, rfl⟩
  rw [← hG]
  have g0 : G [(0, 0)] = fun (s : Nat) => kerT vR (vCl [(0, 0)]) (s : Int) := by rw [hG]; simp only; rw [c0]
  have g1 : G [(2, 1)] = fun (s : Nat) => kerT vR (vCl [(2, 1)]) (s : Int) := by rw [hG]; simp only; rw [c1]
  have g2 : G [(0, 1)] = fun (s : Nat) => kerT vR (vCl [(0, 1)]) (s : Int) := by rw [hG]; simp only; rw [c2]
  have g3 : G [(1, 1)] = fun (s : Nat) => kerT vR (vCl [(1, 1)]) (s : Int) := by rw [hG]; simp only; rw [c3]
  have g4 : G [(1, 2)] = fun (s : Nat) => kerT vR (vCl [(1, 2)]) (s : Int) := by rw [hG]; simp only; rw [c4]
  have g5 : G [(5, 1)] = fun (s : Nat) => kerT vR (vCl [(5, 1)]) (s : Int) := by rw [hG]; simp only; rw [c5]
  have g6 : G [(1, 3)] = fun (s : Nat) => kerT vR (vCl [(1, 3)]) (s : Int) := by rw [hG]; simp only; rw [c6]
  have a0 : autoF G 7 0 = some ([[(0, 0)]], []) := rfl
  have a1 : autoF G 7 1 = some ([[(0, 0)], [(2, 1)], [(0, 1)], [(1, 1)]], [[(1, 1), (4, 2), (5, 3)]]) := by
    rw [autoF_step a0 (by decide), show ([[(0, 0)]] : List (List It)).getD 0 [] = [(0, 0)] from rfl, g0]
    decide
  have a2 : autoF G 7 2 = some ([[(0, 0)], [(2, 1)], [(0, 1)], [(1, 1)]], [[(1, 1), (4, 2), (5, 3)], []]) := by
    rw [autoF_step a1 (by decide), show ([[(0, 0)], [(2, 1)], [(0, 1)], [(1, 1)]] : List (List It)).getD 1 [] = [(2, 1)] from rfl, g1]
    decide
  have a3 : autoF G 7 3 = some ([[(0, 0)], [(2, 1)], [(0, 1)], [(1, 1)]], [[(1, 1), (4, 2), (5, 3)], [], []]) := by
    rw [autoF_step a2 (by decide), show ([[(0, 0)], [(2, 1)], [(0, 1)], [(1, 1)]] : List (List It)).getD 2 [] = [(0, 1)] from rfl, g2]
    decide
  have a4 : autoF G 7 4 = some ([[(0, 0)], [(2, 1)], [(0, 1)], [(1, 1)], [(1, 2)]], [[(1, 1), (4, 2), (5, 3)], [], [], [(1, 1), (4, 4), (5, 3)]]) := by
    rw [autoF_step a3 (by decide), show ([[(0, 0)], [(2, 1)], [(0, 1)], [(1, 1)]] : List (List It)).getD 3 [] = [(1, 1)] from rfl, g3]
    decide
  have a5 : autoF G 7 5 = some ([[(0, 0)], [(2, 1)], [(0, 1)], [(1, 1)], [(1, 2)], [(5, 1)], [(1, 3)]], [[(1, 1), (4, 2), (5, 3)], [], [], [(1, 1), (4, 4), (5, 3)], [(2, 5), (6, 6)]]) := by
    rw [autoF_step a4 (by decide), show ([[(0, 0)], [(2, 1)], [(0, 1)], [(1, 1)], [(1, 2)]] : List (List It)).getD 4 [] = [(1, 2)] from rfl, g4]
    decide
  have a6 : autoF G 7 6 = some ([[(0, 0)], [(2, 1)], [(0, 1)], [(1, 1)], [(1, 2)], [(5, 1)], [(1, 3)]], [[(1, 1), (4, 2), (5, 3)], [], [], [(1, 1), (4, 4), (5, 3)], [(2, 5), (6, 6)], []]) := by
    rw [autoF_step a5 (by decide), show ([[(0, 0)], [(2, 1)], [(0, 1)], [(1, 1)], [(1, 2)], [(5, 1)], [(1, 3)]] : List (List It)).getD 5 [] = [(5, 1)] from rfl, g5]
    decide
  have a7 : autoF G 7 7 = some ([[(0, 0)], [(2, 1)], [(0, 1)], [(1, 1)], [(1, 2)], [(5, 1)], [(1, 3)]], [[(1, 1), (4, 2), (5, 3)], [], [], [(1, 1), (4, 4), (5, 3)], [(2, 5), (6, 6)], [], []]) := by
    rw [autoF_step a6 (by decide), show ([[(0, 0)], [(2, 1)], [(0, 1)], [(1, 1)], [(1, 2)], [(5, 1)], [(1, 3)]] : List (List It)).getD 6 [] = [(1, 3)] from rfl, g6]
    decide
  exact autoF_stay a7 (by decide) 249
theorem v_ggT : autoF (GG 3 6 vL vR) (3 + 4) 256 = some (vKs, vEs) := by
  have h : ∀ k ∈ vKs, IsClo 3 6 vL vR k (CLo 3 6 vL vR k) := fun k hk => by
    have h1 := v_clo k hk
    rw [CLo_eq h1 (by
      simp only [vKs, List.mem_cons, List.not_mem_nil, or_false] at hk
      rcases hk with rfl | rfl | rfl | rfl | rfl | rfl | rfl <;> decide)]
    exact h1
  exact v_auto h
theorem v_trT : trT 3 vEs vKs.length = [(0, 4), (0, 5), (3, 4), (3, 5), (4, 6)] := by decide

end Go.Proofs.YthoamlahbnphkaaGreat.J

/-
  relate: the relations of the law's small grammar.
-/
namespace Go.Proofs.YthoamlahbnphkaaGreat.J
open Go.RowKit Go.Maps Go.Shelf

def vTl : List It := [(0, 4), (0, 5), (3, 4), (3, 5), (4, 6)]
def vF (i : Nat) : Bool := decide (i = 2) || decide (i = 3)
theorem v_nul_only {s : Int} (h : Nul 6 vL vR s) : s = 5 ∨ s = 6 := by
  induction h with
  | prod k hk h ih =>
    rcases v_six hk with rfl | rfl | rfl | rfl | rfl | rfl
    · have := ih 4 (by decide); omega
    · have := ih 4 (by decide); omega
    · have := ih 1 (by decide); omega
    · exact .inl rfl
    · exact .inr rfl
    · exact .inr rfl
theorem v_nul : nulB 3 6 vL vR = vF := funext fun i => by
  have h5 : Nul 6 vL vR 5 := Nul.prod (L := vL) (R := vR) 3 (by decide) (fun x hx => absurd hx (by simp [vR]))
  have h6 : Nul 6 vL vR 6 := Nul.prod (L := vL) (R := vR) 4 (by decide) (fun x hx => absurd hx (by simp [vR]))
  rw [Bool.eq_iff_iff, nulB_iff]
  unfold vF
  simp only [Bool.or_eq_true, decide_eq_true_eq]
  constructor
  · intro h
    have := v_nul_only h
    omega
  · rintro (rfl | rfl)
    · exact h5
    · exact h6
theorem v_rd : foldQ (fun _ => []) (rdT vEs vTl 3 vF 5) 1 = [3] := by decide
theorem v_in : (foldQ (fun _ => []) (inT vEs vTl 3 vF 6 vL vR 5) 2).length = 2 := by decide
theorem v_lb : lbT vEs vTl 6 vL vR 5 = [(37, 0), (8, 0), (3, 1), (37, 2), (8, 2), (21, 3), (28, 4), (35, 4)] := by decide
def vQ : Nat → List Int := foldA [(37, 0), (8, 0), (3, 1), (37, 2), (8, 2), (21, 3), (28, 4), (35, 4)]
theorem v_bk : bkI vQ 6 7 = [(0, 3), (1, 2), (3, 3), (4, 4), (5, 5), (6, 1)] := by decide
theorem v_b5 : (vQ 37).length = 2 := by decide

end Go.Proofs.YthoamlahbnphkaaGreat.J

/-
  relate: Reads, Includes, Lookback of any grammar.
-/
namespace Go.Proofs.YthoamlahbnphkaaGreat.J
open Go.RowKit Go.Maps Go.Shelf

theorem calls_exU {P : Program} {f : FuncId} {args : Array Value} {w : World} {R : Ending → World → Prop} (h : Calls P f args w R) : ∃ e y, R e y := by
  obtain ⟨e, y, _, h1, _⟩ := h []
  exact ⟨e, y, h1⟩

/-- What is so of a closed grammar that has an automaton. -/
structure RelOK (n : Nat) (L : Nat → Int) (R : Nat → List Int) (st : Int) (tn nn : Nat) (ks : List (List It)) (es : List (List (Nat × Nat))) : Prop where
  may : MayOK tn nn n st L R true
  aut : AutF (GG tn n L R) n R (tn + nn) ks es
  clo : ∀ q, q < ks.length → IsClo tn n L R (ks.getD q []) (CLo tn n L R (ks.getD q [])) ∧ (CLo tn n L R (ks.getD q [])).length ≤ (ks.getD q []).length + 13000
  klen : ∀ q, q < ks.length → (ks.getD q []).length ≤ 3341001
  eok : EsOK ks es
  nodup : (trT tn es ks.length).Nodup
  rl : RlOK ks.length (trT tn es ks.length).length (tn + nn) tn nn ks es (trT tn es ks.length)
  rows : RowsOK n (trT tn es ks.length).length (tn + nn) (trT tn es ks.length) L R
  noadd : ∀ k, k < n → ∀ x ∈ R k, x ≠ (tn : Int)

section
variable (ta na la pa : Option Addr) (tc nc lc pc : Nat) (ts : List (ByteArray × Int)) (ns : List ByteArray) (lv : List Int) (n : Nat) (L : Nat → Int) (R : Nat → List Int) (ra : Nat → Option Addr) (rc : Nat → Nat) (V : Nat → Int) (st : Int) (w : World) (tn nn ln : Nat) (hlen : ts.length = tn ∧ ns.length = nn ∧ lv.length = ln) (hG : GAt w ta na la pa tc nc lc pc ts ns lv n L R ra rc V)
include hlen hG
theorem relOK (hc : closedOK ts ns lv st n L R V) {ks : List (List It)} {es : List (List (Nat × Nat))} (h : autoF (GG tn n L R) (tn + nn) 256 = some (ks, es)) : RelOK n L R st tn nn ks es := by
  have hM : MayOK tn nn n st L R true := by obtain ⟨rfl, rfl, rfl⟩ := hlen; exact mayOK_closed hc
  obtain ⟨_, hE, hnd, htl⟩ := uofOk ta na la pa tc nc lc pc ts ns lv n L R ra rc V st w tn nn ln hlen hG hc h
  have hA := autF hM.p0 h
  have hB := build_some ta na la pa tc nc lc pc ts ns lv n L R ra rc V st w tn nn ln hlen hG hc h
  have hkl : ∀ q, q < ks.length → (ks.getD q []).length ≤ 3341001 := fun q hq => (hA.kok.each q hq).len (by have := hA.kok.le; omega)
  have hCl : ∀ q, q < ks.length → IsClo tn n L R (ks.getD q []) (CLo tn n L R (ks.getD q [])) ∧ (CLo tn n L R (ks.getD q [])).length ≤ (ks.getD q []).length + 13000 := fun q hq => by
    obtain ⟨_, y, sa, sc, kv, ev, _, hAP, hg⟩ := calls_exU (hB w (grown_refl _ _))
    obtain ⟨a, c, _, hI, hn⟩ := hAP.kerAt hq
    obtain ⟨_, _, l, h1, h2, _⟩ := calls_exU (closureOk ta na la pa tc nc lc pc ts ns lv n L R ra rc V st y tn nn ln hlen (hG.kept hg) a c (ks.getD q []) hI (by have := hkl q hq; omega) hn hc (hA.kok.each q hq).1)
    rw [CLo_eq h1 h2]
    exact ⟨h1, h2⟩
  have htb : ∀ x ∈ trT tn es ks.length, ∃ q s : Nat, x = ((q : Int), (s : Int)) ∧ q < ks.length ∧ s < tn + nn := fun x hx => by
    obtain ⟨q, hq, e, he, h1, rfl⟩ := trT_mem hx
    exact ⟨q, e.1, rfl, hq, (hA.snd q hq e he).1⟩
  refine ⟨hM, hA, hCl, hkl, hE, hnd, ⟨rfl, rfl, rfl, hM.tmax, hM.nmax, hE.le, hE, fun q hq x hx => (hA.snd q hq x hx).1, htl, htb⟩, fun p hp => ⟨fun k hk e => ?_, fun x hx => ?_⟩, by rw [← hlen.1]; exact no_added hc⟩
  · have hin := getD_in (l := trT tn es ks.length) (i := k) (d := (0, 0)) hk
    obtain ⟨q, s, e1, h1, h2⟩ := htb _ hin
    rw [e1] at e hin
    simp only at e
    obtain ⟨b1, b2⟩ := tr_begun hA (fun q hq => (hCl q hq).1) hin hp e.symm
    have := row_short hM.p0 h hA hM.right (fun q hq => (hCl q hq).1) b1 hp b2
    omega
  · have := hM.right p hp x hx
    omega
theorem rel_reads (hc : closedOK ts ns lv st n L R V) {ks : List (List It)} {es : List (List (Nat × Nat))} (h : autoF (GG tn n L R) (tn + nn) 256 = some (ks, es)) (X : World) (hX : w.grownBy X none) : Calls Tryz.prog 12 #[.agg #[.slice ta tn tc, .slice na nn nc, .slice la ln lc, .int .i64 st, .slice pa n pc]] X fun e y => RelTold (trT tn es ks.length).length (foldQ (fun _ => []) (rdT es (trT tn es ks.length) tn (nulB tn n L R) (trT tn es ks.length).length)) X e y := by
  have hO := relOK ta na la pa tc nc lc pc ts ns lv n L R ra rc V st w tn nn ln hlen hG hc h
  exact ureads_ok ta na la pa tc nc lc pc n st X tn nn ln ks es (trT tn es ks.length) (nulB tn n L R) hO.rl fun Y hY => (uofOk ta na la pa tc nc lc pc ts ns lv n L R ra rc V st Y tn nn ln hlen (hG.kept (grown_trans hX hY)) hc h).1
theorem rel_includes (hc : closedOK ts ns lv st n L R V) {ks : List (List It)} {es : List (List (Nat × Nat))} (h : autoF (GG tn n L R) (tn + nn) 256 = some (ks, es)) (X : World) (hX : w.grownBy X none) : Calls Tryz.prog 13 #[.agg #[.slice ta tn tc, .slice na nn nc, .slice la ln lc, .int .i64 st, .slice pa n pc]] X fun e y => RelTold (trT tn es ks.length).length (foldQ (fun _ => []) (inT es (trT tn es ks.length) tn (nulB tn n L R) n L R (trT tn es ks.length).length)) X e y := by
  have hO := relOK ta na la pa tc nc lc pc ts ns lv n L R ra rc V st w tn nn ln hlen hG hc h
  exact uincludes_ok ta na la pa tc nc lc pc n st X tn nn ln ks es (trT tn es ks.length) (nulB tn n L R) L R ra rc V hO.rl (hG.kept hX).prods (by have := hO.may.pmax; omega) hO.rows fun Y hY => (uofOk ta na la pa tc nc lc pc ts ns lv n L R ra rc V st Y tn nn ln hlen (hG.kept (grown_trans hX hY)) hc h).1
theorem rel_lookback (hc : closedOK ts ns lv st n L R V) {ks : List (List It)} {es : List (List (Nat × Nat))} (h : autoF (GG tn n L R) (tn + nn) 256 = some (ks, es)) (X : World) (hX : w.grownBy X none) : Calls Tryz.prog 14 #[.agg #[.slice ta tn tc, .slice na nn nc, .slice la ln lc, .int .i64 st, .slice pa n pc]] X fun e y => BkTold ks.length n (foldA (lbT es (trT tn es ks.length) n L R (trT tn es ks.length).length)) X e y := by
  have hO := relOK ta na la pa tc nc lc pc ts ns lv n L R ra rc V st w tn nn ln hlen hG hc h
  exact ulookback_ok ta na la pa tc nc lc pc n st X tn nn ln ks es (trT tn es ks.length) (nulB tn n L R) L R ra rc V hO.rl (hG.kept hX).prods (by have := hO.may.pmax; omega) hO.rows fun Y hY => (uofOk ta na la pa tc nc lc pc ts ns lv n L R ra rc V st Y tn nn ln hlen (hG.kept (grown_trans hX hY)) hc h).1
/-- Where there is no automaton. -/
theorem rel_bad {err : Int} (he : (err = 1 ∧ ¬ closedOK ts ns lv st n L R V) ∨ (err = 11 ∧ closedOK ts ns lv st n L R V ∧ autoF (GG tn n L R) (tn + nn) 256 = none)) (X : World) (hX : w.grownBy X none) : (Calls Tryz.prog 12 #[.agg #[.slice ta tn tc, .slice na nn nc, .slice la ln lc, .int .i64 st, .slice pa n pc]] X fun e y => e = .returned (.tuple #[.slice none 0 0, .int .i64 err]) ∧ X.grownBy y none) ∧ (Calls Tryz.prog 13 #[.agg #[.slice ta tn tc, .slice na nn nc, .slice la ln lc, .int .i64 st, .slice pa n pc]] X fun e y => e = .returned (.tuple #[.slice none 0 0, .int .i64 err]) ∧ X.grownBy y none) ∧ (Calls Tryz.prog 14 #[.agg #[.slice ta tn tc, .slice na nn nc, .slice la ln lc, .int .i64 st, .slice pa n pc]] X fun e y => e = .returned (.tuple #[.slice none 0 0, .int .i64 err]) ∧ X.grownBy y none) := by
  have hOf : ∀ Y, X.grownBy Y none → Calls Tryz.prog 30 #[.agg #[.slice ta tn tc, .slice na nn nc, .slice la ln lc, .int .i64 st, .slice pa n pc]] Y fun e y => e = .returned (.tuple #[.agg #[.slice none 0 0, .slice none 0 0, .slice none 0 0, .int .i64 0, .slice none 0 0, .slice none 0 0, .slice none 0 0, .slice none 0 0, .slice none 0 0, .slice none 0 0], .int .i64 err]) ∧ Y.grownBy y none := fun Y hY => by
    rcases he with ⟨rfl, hc⟩ | ⟨rfl, hc, h⟩
    · exact uofBad1 ta na la pa tc nc lc pc ts ns lv n L R ra rc V st Y tn nn ln hlen (hG.kept (grown_trans hX hY)) hc
    · exact uofBad11 ta na la pa tc nc lc pc ts ns lv n L R ra rc V st Y tn nn ln hlen (hG.kept (grown_trans hX hY)) hc h
  have he' : err = 1 ∨ err = 11 := by
    rcases he with h | h
    · exact .inl h.1
    · exact .inr h.1
  exact ⟨ureads_bad ta na la pa tc nc lc pc n st X tn nn ln err he' hOf, uincludes_bad ta na la pa tc nc lc pc n st X tn nn ln err he' hOf, ulookback_bad ta na la pa tc nc lc pc n st X tn nn ln err he' hOf⟩
end

end Go.Proofs.YthoamlahbnphkaaGreat.J
