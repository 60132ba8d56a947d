import Derived.Test.YtapahpljmcaahaaQpbaclahmcgga
import Derived.Test.YtapahpljmcaahaaQkhiamfjfaknb

/-
  lr0: the law's small grammar.
-/
namespace Go.Proofs.Ytapahpljmcaahaa.J
open Go.RowKit Go.Maps Go.Shelf

attribute [local go_sem] Oper.semAt_some

def kTs : List (ByteArray × Int) := [(⟨#[]⟩, 0), (⟨#[43]⟩, 0), (⟨#[110]⟩, 0)]
def kNs : List ByteArray := [⟨#[]⟩, ⟨#[101]⟩]
def kL (i : Nat) : Int := if i = 0 then 3 else 4
def kR (i : Nat) : List Int := if i = 0 then [4] else if i = 1 then [4, 1, 2] else [2]

theorem boxKept {X Y : World} {b : Nat} {o : Obj} (h : X.heap[b]? = some o) (hg : X.grownBy Y none) : Hid (Y.heap[b]? = some o) := box_kept h hg

theorem k_gat {Z : World} {b1 b2 b3 b4 b5 b6 : Nat} (h1 : Z.heap[b1]? = some (.cells #[.string ⟨#[]⟩, .int .i64 0, .string ⟨#[43]⟩, .int .i64 0, .string ⟨#[110]⟩, .int .i64 0] 67 (0, 0))) (h2 : Z.heap[b2]? = some (.cells #[.string ⟨#[]⟩, .string ⟨#[101]⟩] 9 (0, 0))) (h3 : Z.heap[b3]? = some (.cells #[.int .i64 4] 3 (0, 0))) (h4 : Z.heap[b4]? = some (.cells #[.int .i64 4, .int .i64 1, .int .i64 2] 3 (0, 0))) (h5 : Z.heap[b5]? = some (.cells #[.int .i64 2] 3 (0, 0))) (h6 : Z.heap[b6]? = some (.cells #[.int .i64 3, .slice (some ⟨b3, 0, none⟩) 1 1, .int .i64 0, .int .i64 4, .slice (some ⟨b4, 0, none⟩) 3 3, .int .i64 0, .int .i64 4, .slice (some ⟨b5, 0, none⟩) 1 1, .int .i64 0] 55 (0, 0))) :
    ∃ ra rc, GAt Z (some ⟨b1, 0, none⟩) (some ⟨b2, 0, none⟩) none (some ⟨b6, 0, none⟩) 3 2 0 3 kTs kNs [] 3 kL kR ra rc (fun _ => 0) := by
  refine ⟨fun i => if i = 0 then some ⟨b3, 0, none⟩ else if i = 1 then some ⟨b4, 0, none⟩ else some ⟨b5, 0, none⟩, fun i => if i = 1 then 3 else 1, .inr ⟨_, 0, rfl, fun i hi => ?_⟩, .inr ⟨_, 0, rfl, fun i hi => ?_⟩, .inl rfl, .inr ⟨_, 0, rfl, fun k hk => ?_⟩, by decide, by decide, by decide, (fun h => by cases h), (fun h => by cases h), by decide, by decide, by decide, by decide⟩
  · have h2 : i = 0 ∨ i = 1 ∨ i = 2 := by simp [kTs] at hi; omega
    rcases h2 with rfl | rfl | rfl <;> exact ⟨by rw [cell_of_row _ _ _ _ _ _ h1]; rfl, by rw [cell_of_row _ _ _ _ _ _ h1]; rfl⟩
  · have h3 : i = 0 ∨ i = 1 := by simp [kNs] at hi; omega
    rcases h3 with rfl | rfl <;> (rw [cell_of_row _ _ _ _ _ _ h2]; rfl)
  · have h7 : k = 0 ∨ k = 1 ∨ k = 2 := by omega
    rcases h7 with rfl | rfl | rfl
    · refine ⟨by rw [cell_of_row _ _ _ _ _ _ h6]; rfl, by rw [cell_of_row _ _ _ _ _ _ h6]; rfl, by rw [cell_of_row _ _ _ _ _ _ h6]; rfl, .inr ⟨b3, 0, rfl, fun i hi => ?_⟩, (fun h => by cases h), by decide⟩
      have h8 : i = 0 := by simp [kR] at hi; omega
      subst h8
      rw [cell_of_row _ _ _ _ _ _ h3]; rfl
    · refine ⟨by rw [cell_of_row _ _ _ _ _ _ h6]; rfl, by rw [cell_of_row _ _ _ _ _ _ h6]; rfl, by rw [cell_of_row _ _ _ _ _ _ h6]; rfl, .inr ⟨b4, 0, rfl, fun i hi => ?_⟩, (fun h => by cases h), by decide⟩
      have h8 : i = 0 ∨ i = 1 ∨ i = 2 := by simp [kR] at hi; omega
      rcases h8 with rfl | rfl | rfl <;> (rw [cell_of_row _ _ _ _ _ _ h4]; rfl)
    · refine ⟨by rw [cell_of_row _ _ _ _ _ _ h6]; rfl, by rw [cell_of_row _ _ _ _ _ _ h6]; rfl, by rw [cell_of_row _ _ _ _ _ _ h6]; rfl, .inr ⟨b5, 0, rfl, fun i hi => ?_⟩, (fun h => by cases h), by decide⟩
      have h8 : i = 0 := by simp [kR] at hi; omega
      subst h8
      rw [cell_of_row _ _ _ _ _ _ h5]; rfl

theorem infoGramK : (Try.prog.info? 27).map (·.size) = some 5 := by kernel_rfl

/-- The blocks of the small grammar, one behind the other. -/
theorem k_chain (w : World) (cs : Array Value) : ((((((((w.alloc (.cells cs 27)).alloc (.cells #[.string ⟨#[]⟩, .int .i64 0, .string ⟨#[43]⟩, .int .i64 0, .string ⟨#[110]⟩, .int .i64 0] 67)).alloc (.cells #[.string ⟨#[]⟩, .string ⟨#[101]⟩] 9)).alloc (.cells #[.int .i64 4] 3)).alloc (.cells #[.int .i64 4, .int .i64 1, .int .i64 2] 3)).alloc (.cells #[.int .i64 2] 3)).alloc (.cells #[.int .i64 3, .slice (some ⟨w.heap.size + 1 + 1 + 1, 0, none⟩) 1 1, .int .i64 0, .int .i64 4, .slice (some ⟨w.heap.size + 1 + 1 + 1 + 1, 0, none⟩) 3 3, .int .i64 0, .int .i64 4, .slice (some ⟨w.heap.size + 1 + 1 + 1 + 1 + 1, 0, none⟩) 1 1, .int .i64 0] 55)).heap[w.heap.size]? = some (.cells cs 27 (0, 0)) ∧ (((((((w.alloc (.cells cs 27)).alloc (.cells #[.string ⟨#[]⟩, .int .i64 0, .string ⟨#[43]⟩, .int .i64 0, .string ⟨#[110]⟩, .int .i64 0] 67)).alloc (.cells #[.string ⟨#[]⟩, .string ⟨#[101]⟩] 9)).alloc (.cells #[.int .i64 4] 3)).alloc (.cells #[.int .i64 4, .int .i64 1, .int .i64 2] 3)).alloc (.cells #[.int .i64 2] 3)).alloc (.cells #[.int .i64 3, .slice (some ⟨w.heap.size + 1 + 1 + 1, 0, none⟩) 1 1, .int .i64 0, .int .i64 4, .slice (some ⟨w.heap.size + 1 + 1 + 1 + 1, 0, none⟩) 3 3, .int .i64 0, .int .i64 4, .slice (some ⟨w.heap.size + 1 + 1 + 1 + 1 + 1, 0, none⟩) 1 1, .int .i64 0] 55)).heap[w.heap.size + 1]? = some (.cells #[.string ⟨#[]⟩, .int .i64 0, .string ⟨#[43]⟩, .int .i64 0, .string ⟨#[110]⟩, .int .i64 0] 67 (0, 0)) ∧ (((((((w.alloc (.cells cs 27)).alloc (.cells #[.string ⟨#[]⟩, .int .i64 0, .string ⟨#[43]⟩, .int .i64 0, .string ⟨#[110]⟩, .int .i64 0] 67)).alloc (.cells #[.string ⟨#[]⟩, .string ⟨#[101]⟩] 9)).alloc (.cells #[.int .i64 4] 3)).alloc (.cells #[.int .i64 4, .int .i64 1, .int .i64 2] 3)).alloc (.cells #[.int .i64 2] 3)).alloc (.cells #[.int .i64 3, .slice (some ⟨w.heap.size + 1 + 1 + 1, 0, none⟩) 1 1, .int .i64 0, .int .i64 4, .slice (some ⟨w.heap.size + 1 + 1 + 1 + 1, 0, none⟩) 3 3, .int .i64 0, .int .i64 4, .slice (some ⟨w.heap.size + 1 + 1 + 1 + 1 + 1, 0, none⟩) 1 1, .int .i64 0] 55)).heap[w.heap.size + 1 + 1]? = some (.cells #[.string ⟨#[]⟩, .string ⟨#[101]⟩] 9 (0, 0)) ∧ (((((((w.alloc (.cells cs 27)).alloc (.cells #[.string ⟨#[]⟩, .int .i64 0, .string ⟨#[43]⟩, .int .i64 0, .string ⟨#[110]⟩, .int .i64 0] 67)).alloc (.cells #[.string ⟨#[]⟩, .string ⟨#[101]⟩] 9)).alloc (.cells #[.int .i64 4] 3)).alloc (.cells #[.int .i64 4, .int .i64 1, .int .i64 2] 3)).alloc (.cells #[.int .i64 2] 3)).alloc (.cells #[.int .i64 3, .slice (some ⟨w.heap.size + 1 + 1 + 1, 0, none⟩) 1 1, .int .i64 0, .int .i64 4, .slice (some ⟨w.heap.size + 1 + 1 + 1 + 1, 0, none⟩) 3 3, .int .i64 0, .int .i64 4, .slice (some ⟨w.heap.size + 1 + 1 + 1 + 1 + 1, 0, none⟩) 1 1, .int .i64 0] 55)).heap[w.heap.size + 1 + 1 + 1]? = some (.cells #[.int .i64 4] 3 (0, 0)) ∧ (((((((w.alloc (.cells cs 27)).alloc (.cells #[.string ⟨#[]⟩, .int .i64 0, .string ⟨#[43]⟩, .int .i64 0, .string ⟨#[110]⟩, .int .i64 0] 67)).alloc (.cells #[.string ⟨#[]⟩, .string ⟨#[101]⟩] 9)).alloc (.cells #[.int .i64 4] 3)).alloc (.cells #[.int .i64 4, .int .i64 1, .int .i64 2] 3)).alloc (.cells #[.int .i64 2] 3)).alloc (.cells #[.int .i64 3, .slice (some ⟨w.heap.size + 1 + 1 + 1, 0, none⟩) 1 1, .int .i64 0, .int .i64 4, .slice (some ⟨w.heap.size + 1 + 1 + 1 + 1, 0, none⟩) 3 3, .int .i64 0, .int .i64 4, .slice (some ⟨w.heap.size + 1 + 1 + 1 + 1 + 1, 0, none⟩) 1 1, .int .i64 0] 55)).heap[w.heap.size + 1 + 1 + 1 + 1]? = some (.cells #[.int .i64 4, .int .i64 1, .int .i64 2] 3 (0, 0)) ∧ (((((((w.alloc (.cells cs 27)).alloc (.cells #[.string ⟨#[]⟩, .int .i64 0, .string ⟨#[43]⟩, .int .i64 0, .string ⟨#[110]⟩, .int .i64 0] 67)).alloc (.cells #[.string ⟨#[]⟩, .string ⟨#[101]⟩] 9)).alloc (.cells #[.int .i64 4] 3)).alloc (.cells #[.int .i64 4, .int .i64 1, .int .i64 2] 3)).alloc (.cells #[.int .i64 2] 3)).alloc (.cells #[.int .i64 3, .slice (some ⟨w.heap.size + 1 + 1 + 1, 0, none⟩) 1 1, .int .i64 0, .int .i64 4, .slice (some ⟨w.heap.size + 1 + 1 + 1 + 1, 0, none⟩) 3 3, .int .i64 0, .int .i64 4, .slice (some ⟨w.heap.size + 1 + 1 + 1 + 1 + 1, 0, none⟩) 1 1, .int .i64 0] 55)).heap[w.heap.size + 1 + 1 + 1 + 1 + 1]? = some (.cells #[.int .i64 2] 3 (0, 0)) ∧ (((((((w.alloc (.cells cs 27)).alloc (.cells #[.string ⟨#[]⟩, .int .i64 0, .string ⟨#[43]⟩, .int .i64 0, .string ⟨#[110]⟩, .int .i64 0] 67)).alloc (.cells #[.string ⟨#[]⟩, .string ⟨#[101]⟩] 9)).alloc (.cells #[.int .i64 4] 3)).alloc (.cells #[.int .i64 4, .int .i64 1, .int .i64 2] 3)).alloc (.cells #[.int .i64 2] 3)).alloc (.cells #[.int .i64 3, .slice (some ⟨w.heap.size + 1 + 1 + 1, 0, none⟩) 1 1, .int .i64 0, .int .i64 4, .slice (some ⟨w.heap.size + 1 + 1 + 1 + 1, 0, none⟩) 3 3, .int .i64 0, .int .i64 4, .slice (some ⟨w.heap.size + 1 + 1 + 1 + 1 + 1, 0, none⟩) 1 1, .int .i64 0] 55)).heap[w.heap.size + 1 + 1 + 1 + 1 + 1 + 1]? = some (.cells #[.int .i64 3, .slice (some ⟨w.heap.size + 1 + 1 + 1, 0, none⟩) 1 1, .int .i64 0, .int .i64 4, .slice (some ⟨w.heap.size + 1 + 1 + 1 + 1, 0, none⟩) 3 3, .int .i64 0, .int .i64 4, .slice (some ⟨w.heap.size + 1 + 1 + 1 + 1 + 1, 0, none⟩) 1 1, .int .i64 0] 55 (0, 0))) ∧ w.grownBy (((((((w.alloc (.cells cs 27)).alloc (.cells #[.string ⟨#[]⟩, .int .i64 0, .string ⟨#[43]⟩, .int .i64 0, .string ⟨#[110]⟩, .int .i64 0] 67)).alloc (.cells #[.string ⟨#[]⟩, .string ⟨#[101]⟩] 9)).alloc (.cells #[.int .i64 4] 3)).alloc (.cells #[.int .i64 4, .int .i64 1, .int .i64 2] 3)).alloc (.cells #[.int .i64 2] 3)).alloc (.cells #[.int .i64 3, .slice (some ⟨w.heap.size + 1 + 1 + 1, 0, none⟩) 1 1, .int .i64 0, .int .i64 4, .slice (some ⟨w.heap.size + 1 + 1 + 1 + 1, 0, none⟩) 3 3, .int .i64 0, .int .i64 4, .slice (some ⟨w.heap.size + 1 + 1 + 1 + 1 + 1, 0, none⟩) 1 1, .int .i64 0] 55)) none := by
  have g0 := World.grownBy_alloc w (.cells cs 27) none
  have c0 := heap_alloc_last w (.cells cs 27)
  have g1 := World.grownBy_alloc (w.alloc (.cells cs 27)) (.cells #[.string ⟨#[]⟩, .int .i64 0, .string ⟨#[43]⟩, .int .i64 0, .string ⟨#[110]⟩, .int .i64 0] 67) none
  have c1 := heap_alloc_last (w.alloc (.cells cs 27)) (.cells #[.string ⟨#[]⟩, .int .i64 0, .string ⟨#[43]⟩, .int .i64 0, .string ⟨#[110]⟩, .int .i64 0] 67)
  rw [World.size_alloc] at c1
  have g2 := World.grownBy_alloc ((w.alloc (.cells cs 27)).alloc (.cells #[.string ⟨#[]⟩, .int .i64 0, .string ⟨#[43]⟩, .int .i64 0, .string ⟨#[110]⟩, .int .i64 0] 67)) (.cells #[.string ⟨#[]⟩, .string ⟨#[101]⟩] 9) none
  have c2 := heap_alloc_last ((w.alloc (.cells cs 27)).alloc (.cells #[.string ⟨#[]⟩, .int .i64 0, .string ⟨#[43]⟩, .int .i64 0, .string ⟨#[110]⟩, .int .i64 0] 67)) (.cells #[.string ⟨#[]⟩, .string ⟨#[101]⟩] 9)
  rw [World.size_alloc, World.size_alloc] at c2
  have g3 := World.grownBy_alloc (((w.alloc (.cells cs 27)).alloc (.cells #[.string ⟨#[]⟩, .int .i64 0, .string ⟨#[43]⟩, .int .i64 0, .string ⟨#[110]⟩, .int .i64 0] 67)).alloc (.cells #[.string ⟨#[]⟩, .string ⟨#[101]⟩] 9)) (.cells #[.int .i64 4] 3) none
  have c3 := heap_alloc_last (((w.alloc (.cells cs 27)).alloc (.cells #[.string ⟨#[]⟩, .int .i64 0, .string ⟨#[43]⟩, .int .i64 0, .string ⟨#[110]⟩, .int .i64 0] 67)).alloc (.cells #[.string ⟨#[]⟩, .string ⟨#[101]⟩] 9)) (.cells #[.int .i64 4] 3)
  rw [World.size_alloc, World.size_alloc, World.size_alloc] at c3
  have g4 := World.grownBy_alloc ((((w.alloc (.cells cs 27)).alloc (.cells #[.string ⟨#[]⟩, .int .i64 0, .string ⟨#[43]⟩, .int .i64 0, .string ⟨#[110]⟩, .int .i64 0] 67)).alloc (.cells #[.string ⟨#[]⟩, .string ⟨#[101]⟩] 9)).alloc (.cells #[.int .i64 4] 3)) (.cells #[.int .i64 4, .int .i64 1, .int .i64 2] 3) none
  have c4 := heap_alloc_last ((((w.alloc (.cells cs 27)).alloc (.cells #[.string ⟨#[]⟩, .int .i64 0, .string ⟨#[43]⟩, .int .i64 0, .string ⟨#[110]⟩, .int .i64 0] 67)).alloc (.cells #[.string ⟨#[]⟩, .string ⟨#[101]⟩] 9)).alloc (.cells #[.int .i64 4] 3)) (.cells #[.int .i64 4, .int .i64 1, .int .i64 2] 3)
  rw [World.size_alloc, World.size_alloc, World.size_alloc, World.size_alloc] at c4
  have g5 := World.grownBy_alloc (((((w.alloc (.cells cs 27)).alloc (.cells #[.string ⟨#[]⟩, .int .i64 0, .string ⟨#[43]⟩, .int .i64 0, .string ⟨#[110]⟩, .int .i64 0] 67)).alloc (.cells #[.string ⟨#[]⟩, .string ⟨#[101]⟩] 9)).alloc (.cells #[.int .i64 4] 3)).alloc (.cells #[.int .i64 4, .int .i64 1, .int .i64 2] 3)) (.cells #[.int .i64 2] 3) none
  have c5 := heap_alloc_last (((((w.alloc (.cells cs 27)).alloc (.cells #[.string ⟨#[]⟩, .int .i64 0, .string ⟨#[43]⟩, .int .i64 0, .string ⟨#[110]⟩, .int .i64 0] 67)).alloc (.cells #[.string ⟨#[]⟩, .string ⟨#[101]⟩] 9)).alloc (.cells #[.int .i64 4] 3)).alloc (.cells #[.int .i64 4, .int .i64 1, .int .i64 2] 3)) (.cells #[.int .i64 2] 3)
  rw [World.size_alloc, World.size_alloc, World.size_alloc, World.size_alloc, World.size_alloc] at c5
  have g6 := World.grownBy_alloc ((((((w.alloc (.cells cs 27)).alloc (.cells #[.string ⟨#[]⟩, .int .i64 0, .string ⟨#[43]⟩, .int .i64 0, .string ⟨#[110]⟩, .int .i64 0] 67)).alloc (.cells #[.string ⟨#[]⟩, .string ⟨#[101]⟩] 9)).alloc (.cells #[.int .i64 4] 3)).alloc (.cells #[.int .i64 4, .int .i64 1, .int .i64 2] 3)).alloc (.cells #[.int .i64 2] 3)) (.cells #[.int .i64 3, .slice (some ⟨w.heap.size + 1 + 1 + 1, 0, none⟩) 1 1, .int .i64 0, .int .i64 4, .slice (some ⟨w.heap.size + 1 + 1 + 1 + 1, 0, none⟩) 3 3, .int .i64 0, .int .i64 4, .slice (some ⟨w.heap.size + 1 + 1 + 1 + 1 + 1, 0, none⟩) 1 1, .int .i64 0] 55) none
  have c6 := heap_alloc_last ((((((w.alloc (.cells cs 27)).alloc (.cells #[.string ⟨#[]⟩, .int .i64 0, .string ⟨#[43]⟩, .int .i64 0, .string ⟨#[110]⟩, .int .i64 0] 67)).alloc (.cells #[.string ⟨#[]⟩, .string ⟨#[101]⟩] 9)).alloc (.cells #[.int .i64 4] 3)).alloc (.cells #[.int .i64 4, .int .i64 1, .int .i64 2] 3)).alloc (.cells #[.int .i64 2] 3)) (.cells #[.int .i64 3, .slice (some ⟨w.heap.size + 1 + 1 + 1, 0, none⟩) 1 1, .int .i64 0, .int .i64 4, .slice (some ⟨w.heap.size + 1 + 1 + 1 + 1, 0, none⟩) 3 3, .int .i64 0, .int .i64 4, .slice (some ⟨w.heap.size + 1 + 1 + 1 + 1 + 1, 0, none⟩) 1 1, .int .i64 0] 55)
  rw [World.size_alloc, World.size_alloc, World.size_alloc, World.size_alloc, World.size_alloc, World.size_alloc] at c6
  have c0 := (boxKept c0 g1).out
  have c0 := (boxKept c0 g2).out
  have c0 := (boxKept c0 g3).out
  have c0 := (boxKept c0 g4).out
  have c0 := (boxKept c0 g5).out
  have c0 := (boxKept c0 g6).out
  have c1 := (boxKept c1 g2).out
  have c1 := (boxKept c1 g3).out
  have c1 := (boxKept c1 g4).out
  have c1 := (boxKept c1 g5).out
  have c1 := (boxKept c1 g6).out
  have c2 := (boxKept c2 g3).out
  have c2 := (boxKept c2 g4).out
  have c2 := (boxKept c2 g5).out
  have c2 := (boxKept c2 g6).out
  have c3 := (boxKept c3 g4).out
  have c3 := (boxKept c3 g5).out
  have c3 := (boxKept c3 g6).out
  have c4 := (boxKept c4 g5).out
  have c4 := (boxKept c4 g6).out
  have c5 := (boxKept c5 g6).out
  exact ⟨⟨c0, c1, c2, c3, c4, c5, c6⟩, (grown_trans g0 (grown_trans g1 (grown_trans g2 (grown_trans g3 (grown_trans g4 (grown_trans g5 g6))))))⟩

set_option maxRecDepth 100000 in
set_option maxHeartbeats 1000000 in
theorem small_any (w : World) : Calls Try.prog 15 #[] w fun e y => ∃ b1 b2 b6 ra rc, e = .returned (.agg #[.slice (some ⟨b1, 0, none⟩) 3 3, .slice (some ⟨b2, 0, none⟩) 2 2, .slice none 0 0, .int .i64 4, .slice (some ⟨b6, 0, none⟩) 3 3]) ∧ GAt y (some ⟨b1, 0, none⟩) (some ⟨b2, 0, none⟩) none (some ⟨b6, 0, none⟩) 3 2 0 3 kTs kNs [] 3 kL kR ra rc (fun _ => 0) ∧ w.grownBy y none := by
  have HC := show Hid _ from k_chain w #[.slice (some ⟨w.heap.size + 1, 0, none⟩) 3 3, .slice (some ⟨w.heap.size + 1 + 1, 0, none⟩) 2 2, .slice none 0 0, .int .i64 4, .slice (some ⟨w.heap.size + 1 + 1 + 1 + 1 + 1 + 1, 0, none⟩) 3 3]
  go_enter Try.func15, Try.ntmps15
  go_wp2_with fail
  obtain ⟨⟨c0, c1, c2, c3, c4, c5, c6⟩, hg⟩ := HC.out
  obtain ⟨ra, rc, hG⟩ := k_gat c1 c2 c3 c4 c5 c6
  exact bodyPost_ret (v := .agg #[.slice (some ⟨w.heap.size + 1, 0, none⟩) 3 3, .slice (some ⟨w.heap.size + 1 + 1, 0, none⟩) 2 2, .slice none 0 0, .int .i64 4, .slice (some ⟨w.heap.size + 1 + 1 + 1 + 1 + 1 + 1, 0, none⟩) 3 3]) (results_cell_row (fr := (0, 0)) rfl _ _ w.heap.size 27 #[.slice (some ⟨w.heap.size + 1, 0, none⟩) 3 3, .slice (some ⟨w.heap.size + 1 + 1, 0, none⟩) 2 2, .slice none 0 0, .int .i64 4, .slice (some ⟨w.heap.size + 1 + 1 + 1 + 1 + 1 + 1, 0, none⟩) 3 3] _ rfl c0 Try.underlying27 rfl infoGramK) rfl ⟨_, _, _, ra, rc, rfl, hG, hg⟩

end Go.Proofs.Ytapahpljmcaahaa.J

/-
  lr0: the law's small grammar is closed.
-/
namespace Go.Proofs.Ytapahpljmcaahaa.J
open Go.RowKit Go.Maps Go.Shelf

theorem k_closed : closedOK kTs kNs [] 4 3 kL kR (fun _ => 0) := by
  refine ⟨⟨by decide, rfl, by decide, rfl, rfl, rfl⟩, ⟨by decide, by decide, by decide, by decide, by decide, by decide, ⟨⟨by decide, rfl⟩, fun i h1 h2 => ?_⟩, fun j hj => absurd hj (Nat.not_lt_zero j), fun i h1 h2 => ?_, fun i h1 h2 => ?_, rfl, ⟨by decide, by decide⟩⟩⟩
  · have h3 : i = 1 ∨ i = 2 := by simp [kTs] at h2; omega
    rcases h3 with rfl | rfl
    · exact ⟨⟨by rfl, by decide, by decide⟩, fun k h4 h5 => absurd h5 (by omega)⟩
    · refine ⟨⟨by rfl, by decide, by decide⟩, fun k h4 h5 => ?_⟩
      have h6 : k = 1 := by omega
      subst h6
      decide
  · have h3 : i = 1 := by simp [kNs] at h2; omega
    subst h3
    exact ⟨by rfl, fun k h4 h5 => absurd h5 (by omega)⟩
  · have h3 : i = 1 ∨ i = 2 := by omega
    rcases h3 with rfl | rfl
    · refine ⟨⟨by decide, by decide⟩, ⟨by decide, by decide⟩, ?_⟩
      intro x hx
      simp [kR] at hx
      rcases hx with rfl | rfl | rfl
      · exact .inr ⟨by decide, by decide⟩
      · exact .inl ⟨by decide, by decide⟩
      · exact .inl ⟨by decide, by decide⟩
    · refine ⟨⟨by decide, by decide⟩, ⟨by decide, by decide⟩, ?_⟩
      intro x hx
      simp [kR] at hx
      subst hx
      exact .inl ⟨by decide, by decide⟩

end Go.Proofs.Ytapahpljmcaahaa.J

/-
  lr0: the automaton of the law's small grammar, pure.
-/
namespace Go.Proofs.Ytapahpljmcaahaa.J
open Go.RowKit Go.Maps Go.Shelf

theorem isClo_mk {tn n : Nat} {L : Nat → Int} {R : Nat → List Int} {I l : List It} (hA : Asc l) (hI : ∀ x ∈ I, x ∈ l) (hl : ∀ x ∈ l, Clo tn n L R I x) (hc : ∀ y ∈ l, ∀ k, k < n → (tn : Int) ≤ aheadV R y → L k = aheadV R y → ((k : Int), (0 : Int)) ∈ l) : IsClo tn n L R I l :=
  ⟨hA, fun x => ⟨hl x, fun h => h (fun y => y ∈ l) hI fun y k hy ht hk hk2 => hc y hy k hk ht hk2⟩⟩
theorem isClo_self {tn n : Nat} {L : Nat → Int} {R : Nat → List Int} {l : List It} (hA : Asc l) (hc : ∀ y ∈ l, aheadV R y < (tn : Int)) : IsClo tn n L R l l :=
  isClo_mk hA (fun _ h => h) (fun _ h => Clo.base h) fun y hy k _ ht _ => absurd (hc y hy) (by omega)

def kCl (k : List It) : List It := if k = [(0, 0)] then [(0, 0), (1, 0), (2, 0)] else k
def kKs : List (List It) := [[(0, 0)], [(2, 1)], [(0, 1), (1, 1)], [(1, 2)], [(1, 3)]]
def kEs : List (List (Nat × Nat)) := [[(2, 1), (4, 2)], [], [(1, 3)], [(2, 4)], []]

theorem k_clo : ∀ k ∈ kKs, IsClo 3 3 kL kR k (kCl k) := by
  intro k hk
  simp only [kKs, List.mem_cons, List.not_mem_nil, or_false] at hk
  rcases hk with rfl | rfl | rfl | rfl | rfl
  · refine isClo_mk (by simp [kCl, Asc, ltI]) (by simp [kCl]) (fun x hx => ?_) (fun y hy k hk _ _ => ?_)
    · have h0 : Clo 3 3 kL kR [((0 : Int), (0 : Int))] ((0 : Int), (0 : Int)) := Clo.base (by simp)
      simp [kCl] at hx
      rcases hx with rfl | rfl | rfl
      · exact h0
      · exact h0.step (k := 1) (by decide) (by decide) (by decide)
      · exact h0.step (k := 2) (by decide) (by decide) (by decide)
    · have h3 : k = 0 ∨ k = 1 ∨ k = 2 := by omega
      rcases h3 with rfl | rfl | rfl <;> simp [kCl]
  all_goals
    refine isClo_self (by simp [Asc, ltI]) (fun y hy => ?_)
    simp at hy
    rcases hy with rfl | rfl <;> decide

/-- Whatever closes the kernels, the automaton is this one. -/
theorem k_auto {CL : List It → List It} (h : ∀ k ∈ kKs, IsClo 3 3 kL kR k (CL k)) : autoF (fun k (s : Nat) => kerT kR (CL k) (s : Int)) 5 256 = some (kKs, kEs) := by
  have hc : ∀ k ∈ kKs, CL k = kCl k := fun k hk => (h k hk).unique (k_clo k hk)
  have c0 := hc [(0, 0)] (by simp [kKs])
  have c1 := hc [(2, 1)] (by simp [kKs])
  have c2 := hc [(0, 1), (1, 1)] (by simp [kKs])
  have c3 := hc [(1, 2)] (by simp [kKs])
  have c4 := hc [(1, 3)] (by simp [kKs])
  obtain ⟨G, hG⟩ : ∃ G : List It → Nat → List It, G = fun k (s : Nat) => kerT kR (CL k) (s : Int) := ⟨_, rfl⟩
  rw [← hG]
  have g0 : G [(0, 0)] = fun (s : Nat) => kerT kR (kCl [(0, 0)]) (s : Int) := by rw [hG]; simp only; rw [c0]
  have g1 : G [(2, 1)] = fun (s : Nat) => kerT kR (kCl [(2, 1)]) (s : Int) := by rw [hG]; simp only; rw [c1]
  have g2 : G [(0, 1), (1, 1)] = fun (s : Nat) => kerT kR (kCl [(0, 1), (1, 1)]) (s : Int) := by rw [hG]; simp only; rw [c2]
  have g3 : G [(1, 2)] = fun (s : Nat) => kerT kR (kCl [(1, 2)]) (s : Int) := by rw [hG]; simp only; rw [c3]
  have g4 : G [(1, 3)] = fun (s : Nat) => kerT kR (kCl [(1, 3)]) (s : Int) := by rw [hG]; simp only; rw [c4]
  have a0 : autoF G 5 0 = some ([[(0, 0)]], []) := rfl
  have a1 : autoF G 5 1 = some ([[(0, 0)], [(2, 1)], [(0, 1), (1, 1)]], [[(2, 1), (4, 2)]]) := by
    rw [autoF_step a0 (by decide), show ([[((0 : Int), (0 : Int))]] : List (List It)).getD 0 [] = [(0, 0)] from rfl, g0]
    decide
  have a2 : autoF G 5 2 = some ([[(0, 0)], [(2, 1)], [(0, 1), (1, 1)]], [[(2, 1), (4, 2)], []]) := by
    rw [autoF_step a1 (by decide), show ([[(0, 0)], [(2, 1)], [(0, 1), (1, 1)]] : List (List It)).getD 1 [] = [(2, 1)] from rfl, g1]
    decide
  have a3 : autoF G 5 3 = some ([[(0, 0)], [(2, 1)], [(0, 1), (1, 1)], [(1, 2)]], [[(2, 1), (4, 2)], [], [(1, 3)]]) := by
    rw [autoF_step a2 (by decide), show ([[(0, 0)], [(2, 1)], [(0, 1), (1, 1)]] : List (List It)).getD 2 [] = [(0, 1), (1, 1)] from rfl, g2]
    decide
  have a4 : autoF G 5 4 = some (kKs, [[(2, 1), (4, 2)], [], [(1, 3)], [(2, 4)]]) := by
    rw [autoF_step a3 (by decide), show ([[(0, 0)], [(2, 1)], [(0, 1), (1, 1)], [(1, 2)]] : List (List It)).getD 3 [] = [(1, 2)] from rfl, g3]
    decide
  have a5 : autoF G 5 5 = some (kKs, kEs) := by
    rw [autoF_step a4 (by decide), show kKs.getD 4 [] = [(1, 3)] from rfl, g4]
    decide
  exact autoF_stay a5 (by decide) 251

end Go.Proofs.Ytapahpljmcaahaa.J

/-
  lr0: the maker's automaton, and Build.
-/
namespace Go.Proofs.Ytapahpljmcaahaa.J
open Go.RowKit Go.Maps Go.Shelf

attribute [local go_sem] Oper.semAt_some

/-- The closure of a kernel. -/
noncomputable def CLo (tn n : Nat) (L : Nat → Int) (R : Nat → List Int) (k : List It) : List It := by
  classical exact if h : ∃ l, IsClo tn n L R k l ∧ l.length ≤ k.length + 13000 then Classical.choose h else []
theorem CLo_eq {tn n : Nat} {L : Nat → Int} {R : Nat → List Int} {k l : List It} (h : IsClo tn n L R k l) (hl : l.length ≤ k.length + 13000) : CLo tn n L R k = l := by
  have hh : ∃ l, IsClo tn n L R k l ∧ l.length ≤ k.length + 13000 := ⟨l, h, hl⟩
  unfold CLo
  rw [dif_pos hh]
  exact (Classical.choose_spec hh).1.unique h
/-- The kernel behind a symbol. -/
noncomputable def GG (tn n : Nat) (L : Nat → Int) (R : Nat → List Int) (k : List It) (s : Nat) : List It := kerT R (CLo tn n L R k) (s : Int)
theorem GG_eq {tn n : Nat} {L : Nat → Int} {R : Nat → List Int} {k l : List It} (h : IsClo tn n L R k l) (hl : l.length ≤ k.length + 13000) : GG tn n L R k = fun s : Nat => kerT R l (s : Int) := by
  unfold GG
  rw [CLo_eq h hl]
theorem PJ.GG {tn n : Nat} {L : Nat → Int} {R : Nat → List Int} {i m : Nat} {k : List It} (s : Nat) (h : PJ n R i k) (hm : i < m) : PJ n R m (GG tn n L R k s) := by
  unfold J.GG CLo
  by_cases hh : ∃ l, IsClo tn n L R k l ∧ l.length ≤ k.length + 13000
  · rw [dif_pos hh]
    have h1 := Classical.choose_spec hh
    exact h.ker (fun x hx => ((h1.1.mem x).1 hx).item h.1) h1.2 hm
  · rw [dif_neg hh]
    exact ⟨fun x hx => absurd hx (by simp [kerT]), by simp [kerT]⟩
/-- How many kernels were asked for. -/
def askN (es : List (List (Nat × Nat))) : Nat := 1 + (es.map List.length).sum
theorem askN_snoc (es : List (List (Nat × Nat))) (ed : List (Nat × Nat)) : askN (es ++ [ed]) = askN es + ed.length := by
  unfold askN
  rw [List.map_append, List.sum_append]
  simp; omega
theorem sum_le {c : Nat} : ∀ (es : List (List (Nat × Nat))), (∀ q, q < es.length → (es.getD q []).length ≤ c) → (es.map List.length).sum ≤ es.length * c
  | [], _ => by simp
  | ed :: es, h => by
    have h1 := h 0 (by simp)
    have h2 := sum_le es fun q hq => h (q + 1) (by simpa using hq)
    simp only [List.map_cons, List.sum_cons, List.length_cons, Nat.succ_mul]
    have h3 : ed.length ≤ c := h1
    omega
theorem auOK {tn nn n : Nat} {L : Nat → Int} {R : Nat → List Int} (hn0 : 0 < n) {i : Nat} {ks : List (List It)} {es : List (List (Nat × Nat))} (h : autoF (GG tn n L R) (tn + nn) i = some (ks, es)) : AuOK (PJ n R) (GG tn n L R) (tn + nn) i ks es :=
  autoOK ⟨fun x hx => by
    rw [List.mem_singleton.1 hx]
    unfold itB
    simp only [Bool.and_eq_true, decide_eq_true_eq]
    exact ⟨⟨⟨by omega, by omega⟩, by omega⟩, by omega⟩, by simp⟩ (fun i m k s hp hm => hp.GG s hm) i h
theorem askN_le {tn nn n : Nat} {L : Nat → Int} {R : Nat → List Int} (hn0 : 0 < n) (hS : tn + nn ≤ 130) {i : Nat} {ks : List (List It)} {es : List (List (Nat × Nat))} (h : autoF (GG tn n L R) (tn + nn) i = some (ks, es)) : askN es ≤ 33281 := by
  have ha := auOK hn0 h
  have h1 := sum_le es (fun q hq => Nat.le_trans (ha.edges q hq).1 hS)
  have h2 : es.length ≤ 256 := by rw [ha.len]; have := ha.kok.le; omega
  have h3 : es.length * 130 ≤ 256 * 130 := Nat.mul_le_mul_right _ h2
  unfold askN
  omega

/-- An automaton in memory. -/
structure AutP (B : Nat) (X : World) (v : Value) (ks : List (List It)) (el : Nat → List It) (kv ev : Nat → Value) : Prop where
  row : X.ownsRow B 43 2 v ks.length (stV kv ev ks.length)
  ker : ∀ i, i < ks.length → X.ownsRow B 49 2 (kv i) (ks.getD i []).length (itsV (ks.getD i []))
  edg : ∀ i, i < ks.length → X.ownsRow B 61 2 (ev i) (el i).length (itsV (el i))
theorem AutP.kept {B : Nat} {X Y : World} {v : Value} {ks : List (List It)} {el : Nat → List It} {kv ev : Nat → Value} (h : AutP B X v ks el kv ev) (hg : X.grownBy Y none) : AutP B Y v ks el kv ev :=
  ⟨keep0 h.row hg, fun i hi => keep0 (h.ker i hi) hg, fun i hi => keep0 (h.edg i hi) hg⟩
/-- The edges of the states. -/
def elF (es : List (List (Nat × Nat))) (i : Nat) : List It := edI (es.getD i [])
theorem elF_snoc (es : List (List (Nat × Nat))) (ed : List (Nat × Nat)) : updL (elF es) es.length (edI ed) = elF (es ++ [ed]) := funext fun j => by
  unfold elF
  by_cases e : j = es.length
  · subst e; rw [updL_same, getD_snoc_new]
  · rw [updL_other _ _ e]
    by_cases e2 : j < es.length
    · rw [getD_snoc_old e2]
    · rw [List.getD_eq_getElem?_getD, List.getD_eq_getElem?_getD, List.getElem?_eq_none (by omega), List.getElem?_eq_none (by rw [List.length_append, List.length_singleton]; omega)]
theorem elF_out {es : List (List (Nat × Nat))} {j : Nat} (h : es.length ≤ j) : elF es j = [] := by
  unfold elF
  rw [List.getD_eq_getElem?_getD, List.getElem?_eq_none h]; rfl

/-- What Build tells of a closed grammar. -/
def AutTold (w : World) (tn n S : Nat) (L : Nat → Int) (R : Nat → List Int) (e : Ending) (y : World) : Prop :=
  (∃ (ks : List (List It)) (es : List (List (Nat × Nat))) (sa : Option Addr) (sc : Nat) (kv ev : Nat → Value), autoF (GG tn n L R) S 256 = some (ks, es) ∧ e = .returned (.tuple #[.agg #[.slice sa ks.length sc, .int .i64 (askN es : Int), .int .i64 (ks.length : Int)], .int .i64 0]) ∧ AutP w.heap.size y (.slice sa ks.length sc) ks (elF es) kv ev ∧ w.grownBy y none)
  ∨ (autoF (GG tn n L R) S 256 = none ∧ e = .returned (.tuple #[.agg #[.slice none 0 0, .int .i64 0, .int .i64 0], .int .i64 11]) ∧ w.grownBy y none)

theorem infoAut : (Try.prog.info? 32).map (fun i => (i.zero, i.size, i.bytes)) = some (some (.agg #[.slice none 0 0, .int .i64 0, .int .i64 0]), 3, 40) := by kernel_rfl

end Go.Proofs.Ytapahpljmcaahaa.J

/-
  lr0: the maker's automaton, walked.
-/
namespace Go.Proofs.Ytapahpljmcaahaa.J
open Go.RowKit Go.Maps Go.Shelf

attribute [local go_sem] Oper.semAt_some

theorem set3_heap {w : World} {g : Nat} {t : TypeId} {a0 a1 a2 : Value} (h : w.heap[g]? = some (.cells #[a0, a1, a2] t (0, 0))) (v0 v1 v2 : Value) :
    (((w.setCell ⟨g, 0, none⟩ v0).setCell ⟨g, 1, none⟩ v1).setCell ⟨g, 2, none⟩ v2).heap[g]? = some (.cells #[v0, v1, v2] t (0, 0)) := by
  have h0 := heap_setCell_same w g 0 _ _ v0 h
  have h1 := heap_setCell_same _ g 1 _ _ v1 h0
  exact heap_setCell_same _ g 2 _ _ v2 h1
theorem set3_grown (w : World) (g : Nat) (v0 v1 v2 : Value) : w.grownBy (((w.setCell ⟨g, 0, none⟩ v0).setCell ⟨g, 1, none⟩ v1).setCell ⟨g, 2, none⟩ v2) (some g) :=
  grown_trans (grown_trans (grown_setCell _ _ _) (grown_setCell _ _ _)) (grown_setCell _ _ _)
theorem results_auto (tmps : Array Value) (w : World) (g : Nat) (cs : Array Value) (x : Value) (h2 : tmps.getD 2 undef = .pointer (some ⟨g, 0, none⟩)) (h3 : tmps.getD 3 undef = x) (hg : w.heap[g]? = some (.cells cs 32 (0, 0))) (hs : cs.size = 3) :
    (results Try.f24 tmps).run Try.prog w = .ok (.tuple #[.agg cs, x]) w := by
  have h2' : tmps[2]?.getD undef = .pointer (some ⟨g, 0, none⟩) := by simpa using h2
  have h3' : tmps[3]?.getD undef = x := by simpa using h3
  have hl := run_loadVar_row (P := Try.prog) w g 32 32 cs (0, 0) _ hg Try.underlying32 rfl (by rw [hs]; kernel_rfl)
  simp [results, Try.results24, h2', h3', asAddr, hl]
theorem AutP.box {B : Nat} {X Y : World} {v : Value} {ks : List (List It)} {el : Nat → List It} {kv ev : Nat → Value} {bx : Nat} {cs : Array Value} {e : TypeId} (h : AutP B X v ks el kv ev) (hb : X.heap[bx]? = some (.cells cs e (0, 0))) (h1 : 43 ≠ e) (h2 : 49 ≠ e) (h3 : 61 ≠ e) (hg : X.grownBy Y (some bx)) : AutP B Y v ks el kv ev :=
  ⟨h.row.kept hg (owns_nebox h.row hb h1), fun i hi => (h.ker i hi).kept hg (owns_nebox (h.ker i hi) hb h2), fun i hi => (h.edg i hi).kept hg (owns_nebox (h.edg i hi) hb h3)⟩
theorem MkAt.cellsA {w X : World} {mb bm : Nat} {c0 c1 c2 c3 c4 : Value} {ks : List (List It)} {asked : Int} {el : Nat → List It} {E : Nat} (h : MkAt w X mb bm c0 c1 c2 c3 c4 ks asked el E) : ∃ (sa : Option Addr) (sc : Nat) (kv ev : Nat → Value), X.cell? ⟨mb, 5, none⟩ = some (.slice sa ks.length sc) ∧ X.cell? ⟨mb, 6, none⟩ = some (.int .i64 asked) ∧ X.cell? ⟨mb, 7, none⟩ = some (.int .i64 (ks.length : Int)) ∧ AutP w.heap.size X (.slice sa ks.length sc) ks el kv ev ∧ w.grownBy X none := by
  obtain ⟨sa, sc, kv, ev, m, fv, h1, _⟩ := h
  obtain ⟨_, _, _, _, _, y5, y6, y7, _⟩ := h1.cells
  exact ⟨sa, sc, kv, ev, y5, y6, y7, ⟨h1.row, h1.ker, h1.edg⟩, h1.grown⟩

set_option maxRecDepth 100000 in
set_option maxHeartbeats 4000000 in
theorem automaton_any (ta na la pa : Option Addr) (tc nc lc pc : Nat) (n : Nat) (L : Nat → Int) (R : Nat → List Int) (ra : Nat → Option Addr) (rc : Nat → Nat) (V : Nat → Int) (st : Int) (w X : World) (tn nn ln : Nat) (hP : ProdsAt w pa n L R ra rc V) (hn : n ≤ 97) (hn0 : 0 < n) (htn : tn ≤ 65) (hnn : nn ≤ 65) (hR : ∀ k, k < n → ∀ x ∈ R k, (0 : Int) ≤ x ∧ x < ((tn + nn : Nat) : Int)) (hRb : ∀ k, k < n → (R k).length ≤ 17592186044416)
    (mb bm E : Nat) (hM : MkAt w X mb bm (.slice ta tn tc) (.slice na nn nc) (.slice la ln lc) (.int .i64 st) (.slice pa n pc) [] 0 (fun _ => []) E) :
    Calls Try.prog 24 #[.pointer (some ⟨mb, 0, none⟩)] X fun e y => AutTold w tn n (tn + nn) L R e y := by
  obtain ⟨S, hS⟩ : ∃ S, S = tn + nn := ⟨_, rfl⟩
  have HAU : Hid (∀ i ks es, autoF (GG tn n L R) S i = some (ks, es) → AuOK (PJ n R) (GG tn n L R) S i ks es ∧ askN es ≤ 33281) := fun i ks es h => by
    rw [hS] at h ⊢
    exact ⟨auOK hn0 h, askN_le hn0 (by omega) h⟩
  have HLV : Hid (∀ (Y : World) ks es E i, autoF (GG tn n L R) S i = some (ks, es) → i < ks.length → MkAt w Y mb bm (.slice ta tn tc) (.slice na nn nc) (.slice la ln lc) (.int .i64 st) (.slice pa n pc) ks (askN es : Int) (elF es) E → Calls Try.prog 37 #[.pointer (some ⟨mb, 0, none⟩), .int .i64 (i : Int)] Y fun e y => LeaveTold w Y mb bm (.slice ta tn tc) (.slice na nn nc) (.slice la ln lc) (.int .i64 st) (.slice pa n pc) tn n S L R ks (askN es : Int) (elF es) i e y) := fun Y ks es E i h hi hm => by
    have ha := (HAU.out i ks es h).1
    have hb := (HAU.out i ks es h).2
    rw [hS]
    exact leave_any ta na la pa tc nc lc pc n L R ra rc V st w Y tn nn ln hP hn hn0 htn hnn hR hRb mb bm ks (askN es : Int) (elF es) E i hm ha.kok hi (by omega) (by omega) (fun j hj => elF_out (by rw [ha.len]; omega))
  rw [← hS]
  have hM0 := hM.kept (World.grownBy_alloc X (.cells #[.slice none 0 0, .int .i64 0, .int .i64 0] 32) none)
  have hM1 := hM0.kept (World.grownBy_alloc _ (.cells #[.int .i64 0, .int .i64 0] 49) none)
  have hsw : w.heap.size ≤ X.heap.size := by obtain ⟨_, _, _, _, _, _, h, _⟩ := hM; exact h.grown.size
  have HAK : Hid (Calls Try.prog 36 #[.pointer (some ⟨mb, 0, none⟩), .slice (some ⟨X.heap.size + 1, 0, none⟩) 1 1] ((X.alloc (.cells #[.slice none 0 0, .int .i64 0, .int .i64 0] 32)).alloc (.cells #[.int .i64 0, .int .i64 0] 49)) fun e y => AskTold w ((X.alloc (.cells #[.slice none 0 0, .int .i64 0, .int .i64 0] 32)).alloc (.cells #[.int .i64 0, .int .i64 0] 49)) mb bm (.slice ta tn tc) (.slice na nn nc) (.slice la ln lc) (.int .i64 st) (.slice pa n pc) [] 0 (fun _ => []) E [(0, 0)] e y) := by
    refine ask_any w _ mb bm _ _ _ _ _ [] 0 (fun _ => []) E [(0, 0)] (some ⟨X.heap.size + 1, 0, none⟩) 1 0 0 hM1 ?_ rfl ⟨rfl, rfl⟩ (by simp) (by simp) (fun i hi => by cases hi) (by simp) (by omega) (by omega) (fun _ _ => rfl)
    refine ⟨rfl, .inr ⟨X.heap.size + 1, 1, #[.int .i64 0, .int .i64 0], rfl, by omega, ?_, Nat.le_refl _, by unfold maxLen; omega, rfl, rfl⟩⟩
    have h := heap_alloc_last (X.alloc (.cells #[.slice none 0 0, .int .i64 0, .int .i64 0] 32)) (.cells #[.int .i64 0, .int .i64 0] 49)
    simpa using h
  have HBX : Hid (((X.alloc (.cells #[.slice none 0 0, .int .i64 0, .int .i64 0] 32)).alloc (.cells #[.int .i64 0, .int .i64 0] 49)).heap[X.heap.size]? = some (.cells #[.slice none 0 0, .int .i64 0, .int .i64 0] 32 (0, 0))) := box_kept (heap_alloc_last X _) (World.grownBy_alloc _ _ none)
  clear hM hM0 hM1 hP hR hRb hS
  obtain ⟨bx, hbx⟩ : ∃ b, b = X.heap.size := ⟨_, rfl⟩
  rw [← hbx] at HBX
  have HBW : Hid (w.heap.size ≤ bx) := by show _ ≤ _; rw [hbx]; exact hsw
  go_enter Try.func24, Try.ntmps24
  go_wp2_with fail
  refine Calls.mono HAK.out ?_
  rintro e w3 (⟨t, ks1, ha, rfl, hM3, hT3⟩ | ⟨ha, rfl, _⟩)
  case inr => exact absurd ha (by simp [askF])
  have hks : ks1 = [[(0, 0)]] := by simp [askF] at ha; exact ha.2.symm
  subst hks
  have HM3 : Hid (MkAt w w3 mb bm (.slice ta tn tc) (.slice na nn nc) (.slice la ln lc) (.int .i64 st) (.slice pa n pc) [[(0, 0)]] ((askN [] : Nat) : Int) (elF []) E) := by
    have e1 : elF [] = fun _ => [] := funext fun j => by unfold elF; rfl
    rw [e1]
    exact hM3
  have HB3 : Hid (w3.heap[bx]? = some (.cells #[.slice none 0 0, .int .i64 0, .int .i64 0] 32 (0, 0))) := hT3.block _ _ _ _ (by decide) (by decide) (by decide) HBX.out
  rw [← hbx]
  clear ha hM3 hT3 HAK HBX hbx hsw
  go_wp2_with fail
  go_loopg [4] 256 (fun gk v4 wr => ∃ (i : Nat) (ks : List (List It)) (es : List (List (Nat × Nat))) (E : Nat), autoF (GG tn n L R) S i = some (ks, es) ∧ i ≤ ks.length ∧ gk = 256 - i ∧ v4 = .int .i64 i ∧ MkAt w wr mb bm (.slice ta tn tc) (.slice na nn nc) (.slice la ln lc) (.int .i64 st) (.slice pa n pc) ks (askN es : Int) (elF es) E ∧ wr.heap[bx]? = some (.cells #[.slice none 0 0, .int .i64 0, .int .i64 0] 32 (0, 0)))
  case atStart => exact ⟨0, [[(0, 0)]], [], E, rfl, Nat.zero_le _, rfl, rfl, HM3.out, HB3.out⟩
  case round =>
    obtain ⟨i, ks, es, E2, hau, hi, hgi, rfl, hmk, hb⟩ := hrel
    have HGI : Hid (gk = 256 - i) := hgi
    have HA : Hid (autoF (GG tn n L R) S i = some (ks, es)) := hau
    have HMK : Hid (MkAt w wr mb bm (.slice ta tn tc) (.slice na nn nc) (.slice la ln lc) (.int .i64 st) (.slice pa n pc) ks (askN es : Int) (elF es) E2) := hmk
    have HB : Hid (wr.heap[bx]? = some (.cells #[.slice none 0 0, .int .i64 0, .int .i64 0] 32 (0, 0))) := hb
    obtain ⟨hAO, hAN⟩ := HAU.out i ks es hau
    have HAO : Hid (AuOK (PJ n R) (GG tn n L R) S i ks es) := hAO
    obtain ⟨sa, sc, kv, ev, y5, y6, y7, hAP, hgw⟩ := hmk.cellsA
    have HAP : Hid (AutP w.heap.size wr (.slice sa ks.length sc) ks (elF es) kv ev ∧ w.grownBy wr none) := ⟨hAP, hgw⟩
    obtain ⟨N, hN⟩ : ∃ n, n = ks.length := ⟨_, rfl⟩
    have HN : Hid (N = ks.length) := hN
    have hN256 : N ≤ 256 := by rw [hN]; exact hAO.kok.le
    rw [← hN] at hi y5 y7
    clear hgi hau hmk hb hAO hAP hgw hN HM3 HB3
    by_cases hlt : i < N
    · have hid : decide (i < N) = true := decide_eq_true hlt
      have HC := show Hid _ from HLV.out wr ks es E2 i HA.out (by rw [← HN.out]; exact hlt) HMK.out
      go_wp2_with fail
      refine Calls.mono HC.out ?_
      rintro e w4 ⟨l, hIC, hll, h4⟩
      have hGG := GG_eq hIC hll
      have hst := autoF_step HA.out (by rw [← HN.out]; exact hlt)
      rw [hGG] at hst
      rcases h4 with ⟨ks2, ed, E4, hlf, rfl, hM4, hT4⟩ | ⟨hlf, rfl, hg4, hT4⟩
      · rw [hlf] at hst
        have HA2 : Hid (autoF (GG tn n L R) S (i + 1) = some (ks2, es ++ [ed])) := hst
        have hel : es.length = i := by rw [HAO.out.len, ← HN.out]; omega
        have HM4 : Hid (MkAt w w4 mb bm (.slice ta tn tc) (.slice na nn nc) (.slice la ln lc) (.int .i64 st) (.slice pa n pc) ks2 ((askN (es ++ [ed]) : Nat) : Int) (elF (es ++ [ed])) E4) := by
          rw [← elF_snoc, askN_snoc, hel, Int.natCast_add]
          exact hM4
        have HB4 : Hid (w4.heap[bx]? = some (.cells #[.slice none 0 0, .int .i64 0, .int .i64 0] 32 (0, 0))) := hT4.block _ _ _ _ (by decide) (by decide) (by decide) HB.out
        have HL2 : Hid (i + 1 ≤ ks2.length) := by
          have h9 := (HAU.out _ _ _ hst).1.len
          rw [List.length_append, List.length_singleton, hel] at h9
          show _ ≤ _
          omega
        clear hIC hll hGG hst hlf hM4 hT4 hel HC y5 y6 y7
        go_wp2_with fail
        go_roundg (256 - (i + 1))
        case measure => have := HGI.out; omega
        case rel => exact ⟨i + 1, ks2, es ++ [ed], E4, HA2.out, HL2.out, rfl, by go_num, HM4.out, HB4.out⟩
      · rw [hlf] at hst
        have HA2 : Hid (autoF (GG tn n L R) S 256 = none) := by
          have h9 := autoF_none hst (256 - (i + 1))
          rwa [show i + 1 + (256 - (i + 1)) = 256 by omega] at h9
        have HB4 : Hid (w4.heap[bx]? = some (.cells #[.slice none 0 0, .int .i64 0, .int .i64 0] 32 (0, 0))) := hT4.block _ _ _ _ (by decide) (by decide) (by decide) HB.out
        have HG4 : Hid (w.grownBy w4 none) := hg4
        have k0 := cell_of_row w4 bx 0 _ _ _ HB4.out
        have k1 := cell_of_row w4 bx 1 _ _ _ HB4.out
        have k2 := cell_of_row w4 bx 2 _ _ _ HB4.out
        have kf := fun j => frozen_of_row w4 bx j _ _ HB4.out
        simp only [List.getElem?_toArray, List.getElem?_cons_zero, List.getElem?_cons_succ] at k0 k1 k2
        clear hIC hll hGG hst hlf hT4 hg4 HC y5 y6 y7
        go_wp2_with fail
        refine bodyPost_ret (v := .tuple #[.agg #[.slice none 0 0, .int .i64 0, .int .i64 0], .int .i64 11]) ?_ rfl ?_
        · exact results_auto _ _ bx _ _ rfl rfl (set3_heap HB4.out _ _ _) rfl
        · exact .inr ⟨HA2.out, rfl, grown_new HG4.out (set3_grown _ _ _ _ _) HBW.out⟩
    · have hiN : N = i := by omega
      subst hiN
      have hid : decide (N < N) = false := decide_eq_false (by omega)
      have HA2 : Hid (autoF (GG tn n L R) S 256 = some (ks, es)) := by
        have h9 := autoF_stay HA.out (by rw [← HN.out]; exact Nat.le_refl _) (256 - N)
        rwa [show N + (256 - N) = 256 by omega] at h9
      have k0 := cell_of_row wr bx 0 _ _ _ HB.out
      have k1 := cell_of_row wr bx 1 _ _ _ HB.out
      have k2 := cell_of_row wr bx 2 _ _ _ HB.out
      have kf := fun j => frozen_of_row wr bx j _ _ HB.out
      simp only [List.getElem?_toArray, List.getElem?_cons_zero, List.getElem?_cons_succ] at k0 k1 k2
      obtain ⟨ask, hask⟩ : ∃ a, a = (askN es : Int) := ⟨_, rfl⟩
      have HASK : Hid (ask = (askN es : Int)) := hask
      rw [← hask] at y6
      clear hask
      go_wp2_with fail
      refine bodyPost_ret (v := .tuple #[.agg #[.slice sa N sc, .int .i64 ask, .int .i64 (N : Int)], .int .i64 0]) ?_ rfl ?_
      · exact results_auto _ _ bx _ _ rfl rfl (set3_heap HB.out _ _ _) rfl
      · refine .inl ⟨ks, es, sa, sc, kv, ev, HA2.out, ?_, ?_, grown_new HAP.out.2 (set3_grown _ _ _ _ _) HBW.out⟩
        · rw [HASK.out, ← HN.out]
        · exact HAP.out.1.box HB.out (by decide) (by decide) (by decide) (set3_grown _ _ _ _ _)

end Go.Proofs.Ytapahpljmcaahaa.J
