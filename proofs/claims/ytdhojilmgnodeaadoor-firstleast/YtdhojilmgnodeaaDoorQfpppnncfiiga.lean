import Derived.Test.YtdhojilmgnodeaaDoorQmogflcnbbcpe

/-
  first: the law's small grammar.
-/
namespace Go.Proofs.YtdhojilmgnodeaaDoor
open Go.RowKit Go.Maps Go.Shelf

attribute [local go_sem] Oper.semAt_some

def kTs : List (ByteArray × Int) := [(⟨#[]⟩, 0), (⟨#[120]⟩, 0), (⟨#[121]⟩, 0), (⟨#[122]⟩, 0)]
def kNs : List ByteArray := [⟨#[115]⟩, ⟨#[97]⟩]
def kL (i : Nat) : Int := if i < 2 then 4 else 5
def kR (i : Nat) : List Int := if i = 0 then [5, 4, 1] else if i = 1 then [2] else if i = 2 then [] else [3]

theorem k_valid : validOK kTs kNs [] 4 4 kL kR (fun _ => 0) := by
  refine ⟨⟨by decide, by decide, ⟨[(⟨#[120]⟩, 0), (⟨#[121]⟩, 0), (⟨#[122]⟩, 0)], rfl, ?_, by decide⟩, ⟨?_, by decide⟩, fun j hj => absurd hj (Nat.not_lt_zero j), ?_, rfl, ⟨by decide, by decide⟩⟩, ?_⟩
  · intro t ht
    simp only [List.mem_cons, List.not_mem_nil, or_false] at ht
    rcases ht with rfl | rfl | rfl <;> exact ⟨by rfl, by decide, by decide⟩
  · intro s hs
    simp only [kNs, List.mem_cons, List.not_mem_nil, or_false] at hs
    rcases hs with rfl | rfl <;> rfl
  · intro i hi
    have h3 : i = 0 ∨ i = 1 ∨ i = 2 ∨ i = 3 := by omega
    rcases h3 with rfl | rfl | rfl | rfl
    · refine ⟨⟨by decide, by decide⟩, ⟨by decide, by decide⟩, ?_⟩
      intro x hx
      simp [kR] at hx
      rcases hx with rfl | rfl | rfl
      · exact .inr ⟨by decide, by decide⟩
      · exact .inr ⟨by decide, by decide⟩
      · exact .inl ⟨by decide, by decide⟩
    · refine ⟨⟨by decide, by decide⟩, ⟨by decide, by decide⟩, ?_⟩
      intro x hx
      simp [kR] at hx
      subst hx
      exact .inl ⟨by decide, by decide⟩
    · refine ⟨⟨by decide, by decide⟩, ⟨by decide, by decide⟩, ?_⟩
      intro x hx
      simp [kR] at hx
    · refine ⟨⟨by decide, by decide⟩, ⟨by decide, by decide⟩, ?_⟩
      intro x hx
      simp [kR] at hx
      subst hx
      exact .inl ⟨by decide, by decide⟩
  · intro i hi
    have : (leftsTo kL 4).length = 2 := by rfl
    have h0 : i = 0 := by omega
    subst h0
    decide

def kM (i : Nat) : Nat := if i < 4 then 2 ^ i else if i = 4 then 12 else if i = 5 then 8 else 0
theorem bit12 {t : Nat} (h : Nat.testBit 12 t = true) : t = 2 ∨ t = 3 := by
  have ht : t < 4 := Nat.lt_of_not_le fun hc => by
    rw [Nat.testBit_lt_two_pow (Nat.lt_of_lt_of_le (by decide : 12 < 2 ^ 4) (Nat.pow_le_pow_right (by decide) hc))] at h
    cases h
  have h4 : t = 0 ∨ t = 1 ∨ t = 2 ∨ t = 3 := by omega
  rcases h4 with rfl | rfl | rfl | rfl
  · cases h
  · cases h
  · exact .inl rfl
  · exact .inr rfl
theorem bitp {k t : Nat} (h : Nat.testBit (2 ^ k) t = true) : t = k := by
  rw [Nat.testBit_two_pow] at h
  exact (by simpa using h : k = t).symm
theorem k_beg5 : Beg 4 4 kL kR 5 3 := .prod 3 (by decide) [] 3 [] 3 rfl (fun y hy => by cases hy) (.term 3 (by decide) (by decide))
theorem k_found : Found 4 4 kL kR 32 kM := by
  refine found_of ⟨fun i hi => ?_, fun i t hi => ?_, fun t ht => ?_⟩ fun k hk => ?_
  · have : i = 5 := bitp (k := 5) hi
    subst this
    exact .prod 2 (by decide) (fun x hx => by cases hx)
  · unfold kM at hi
    by_cases h1 : i < 4
    · rw [if_pos h1] at hi
      rw [bitp hi]
      exact .term _ (by omega) (by omega)
    · rw [if_neg h1] at hi
      by_cases h2 : i = 4
      · subst h2
        rcases bit12 hi with rfl | rfl
        · exact .prod 1 (by decide) [] 2 [] 2 rfl (fun y hy => by cases hy) (.term 2 (by decide) (by decide))
        · exact .prod 0 (by decide) [] 5 [4, 1] 3 rfl (fun y hy => by cases hy) k_beg5
      · rw [if_neg h2] at hi
        by_cases h3 : i = 5
        · subst h3
          rw [show t = 3 from bitp (k := 3) hi]
          exact k_beg5
        · rw [if_neg h3] at hi
          simp at hi
  · unfold kM
    rw [if_pos ht, Nat.testBit_two_pow]
    simp
  · have h3 : k = 0 ∨ k = 1 ∨ k = 2 ∨ k = 3 := by omega
    rcases h3 with rfl | rfl | rfl | rfl
    · exact ⟨fun h => (by cases h), fun t h => h⟩
    · refine ⟨fun h => (by cases h), fun t h => ?_⟩
      rw [show t = 2 from bitp (k := 2) h]
      rfl
    · exact ⟨fun _ => rfl, fun t h => (by simp [kR, rowM] at h)⟩
    · exact ⟨fun h => (by cases h), fun t h => h⟩
theorem k_fof : FOf 4 4 kL kR (fun i => Nat.testBit 32 (4 + i)) (fun i => kM (4 + i)) := ⟨fun i => k_found.nul (4 + i), fun i t => k_found.beg (4 + i) t⟩
theorem k_row : (true = true ↔ RowN 4 kL kR [5, 5]) ∧ ∀ t : Nat, Nat.testBit 8 t = true ↔ RowB 4 4 kL kR [5, 5] (t : Int) := by
  have h := k_found.row (l := [5, 5]) (by intro x hx; simp at hx; omega)
  exact ⟨h.1, h.2⟩
theorem mems12 : B.mems 1024 12 = [2, 3] := by decide +kernel
theorem mems8 : B.mems 1024 8 = [3] := by decide +kernel

theorem k_gat {Z : World} {b1 b2 b3 b4 b5 b6 : Nat} (h1 : Z.heap[b1]? = some (.cells #[.string ⟨#[]⟩, .int .i64 0, .string ⟨#[120]⟩, .int .i64 0, .string ⟨#[121]⟩, .int .i64 0, .string ⟨#[122]⟩, .int .i64 0] 77 (0, 0))) (h2 : Z.heap[b2]? = some (.cells #[.string ⟨#[115]⟩, .string ⟨#[97]⟩] 9 (0, 0))) (h3 : Z.heap[b3]? = some (.cells #[.int .i64 5, .int .i64 4, .int .i64 1] 3 (0, 0))) (h4 : Z.heap[b4]? = some (.cells #[.int .i64 2] 3 (0, 0))) (h5 : Z.heap[b5]? = some (.cells #[.int .i64 3] 3 (0, 0))) (h6 : Z.heap[b6]? = some (.cells #[.int .i64 4, .slice (some ⟨b3, 0, none⟩) 3 3, .int .i64 0, .int .i64 4, .slice (some ⟨b4, 0, none⟩) 1 1, .int .i64 0, .int .i64 5, .slice none 0 0, .int .i64 0, .int .i64 5, .slice (some ⟨b5, 0, none⟩) 1 1, .int .i64 0] 51 (0, 0))) :
    ∃ ra rc, GAt Z (some ⟨b1, 0, none⟩) (some ⟨b2, 0, none⟩) none (some ⟨b6, 0, none⟩) 4 2 0 4 kTs kNs [] 4 kL kR ra rc (fun _ => 0) := by
  refine ⟨fun i => if i = 0 then some ⟨b3, 0, none⟩ else if i = 1 then some ⟨b4, 0, none⟩ else if i = 2 then none else some ⟨b5, 0, none⟩, fun i => if i = 0 then 3 else if i = 2 then 0 else 1, .inr ⟨_, 0, rfl, fun i hi => ?_⟩, .inr ⟨_, 0, rfl, fun i hi => ?_⟩, .inl rfl, .inr ⟨_, 0, rfl, fun k hk => ?_⟩, by decide, by decide, by decide, (fun h => by cases h), (fun h => by cases h), by decide, by decide, by decide, by decide⟩
  · have h2 : i = 0 ∨ i = 1 ∨ i = 2 ∨ i = 3 := by simp [kTs] at hi; omega
    rcases h2 with rfl | rfl | rfl | rfl <;> exact ⟨by rw [cell_of_row _ _ _ _ _ _ h1]; rfl, by rw [cell_of_row _ _ _ _ _ _ h1]; rfl⟩
  · have h3 : i = 0 ∨ i = 1 := by simp [kNs] at hi; omega
    rcases h3 with rfl | rfl <;> (rw [cell_of_row _ _ _ _ _ _ h2]; rfl)
  · have h7 : k = 0 ∨ k = 1 ∨ k = 2 ∨ k = 3 := by omega
    rcases h7 with rfl | rfl | rfl | rfl
    · refine ⟨by rw [cell_of_row _ _ _ _ _ _ h6]; rfl, by rw [cell_of_row _ _ _ _ _ _ h6]; rfl, by rw [cell_of_row _ _ _ _ _ _ h6]; rfl, .inr ⟨b3, 0, rfl, fun i hi => ?_⟩, (fun h => by cases h), by decide⟩
      have h8 : i = 0 ∨ i = 1 ∨ i = 2 := by simp [kR] at hi; omega
      rcases h8 with rfl | rfl | rfl <;> (rw [cell_of_row _ _ _ _ _ _ h3]; rfl)
    · refine ⟨by rw [cell_of_row _ _ _ _ _ _ h6]; rfl, by rw [cell_of_row _ _ _ _ _ _ h6]; rfl, by rw [cell_of_row _ _ _ _ _ _ h6]; rfl, .inr ⟨b4, 0, rfl, fun i hi => ?_⟩, (fun h => by cases h), by decide⟩
      have h8 : i = 0 := by simp [kR] at hi; omega
      subst h8
      rw [cell_of_row _ _ _ _ _ _ h4]; rfl
    · exact ⟨by rw [cell_of_row _ _ _ _ _ _ h6]; rfl, by rw [cell_of_row _ _ _ _ _ _ h6]; rfl, by rw [cell_of_row _ _ _ _ _ _ h6]; rfl, .inl rfl, (fun _ => rfl), by decide⟩
    · refine ⟨by rw [cell_of_row _ _ _ _ _ _ h6]; rfl, by rw [cell_of_row _ _ _ _ _ _ h6]; rfl, by rw [cell_of_row _ _ _ _ _ _ h6]; rfl, .inr ⟨b5, 0, rfl, fun i hi => ?_⟩, (fun h => by cases h), by decide⟩
      have h8 : i = 0 := by simp [kR] at hi; omega
      subst h8
      rw [cell_of_row _ _ _ _ _ _ h5]; rfl

theorem infoGramK : (Tryd.prog.info? 27).map (·.size) = some 5 := by kernel_rfl

/-- The blocks of the small grammar, one behind the other. -/
theorem k_chain (w : World) (cs : Array Value) : ((((((((w.alloc (.cells cs 27)).alloc (.cells #[.string ⟨#[]⟩, .int .i64 0, .string ⟨#[120]⟩, .int .i64 0, .string ⟨#[121]⟩, .int .i64 0, .string ⟨#[122]⟩, .int .i64 0] 77)).alloc (.cells #[.string ⟨#[115]⟩, .string ⟨#[97]⟩] 9)).alloc (.cells #[.int .i64 5, .int .i64 4, .int .i64 1] 3)).alloc (.cells #[.int .i64 2] 3)).alloc (.cells #[.int .i64 3] 3)).alloc (.cells #[.int .i64 4, .slice (some ⟨w.heap.size + 1 + 1 + 1, 0, none⟩) 3 3, .int .i64 0, .int .i64 4, .slice (some ⟨w.heap.size + 1 + 1 + 1 + 1, 0, none⟩) 1 1, .int .i64 0, .int .i64 5, .slice none 0 0, .int .i64 0, .int .i64 5, .slice (some ⟨w.heap.size + 1 + 1 + 1 + 1 + 1, 0, none⟩) 1 1, .int .i64 0] 51)).heap[w.heap.size]? = some (.cells cs 27 (0, 0)) ∧ (((((((w.alloc (.cells cs 27)).alloc (.cells #[.string ⟨#[]⟩, .int .i64 0, .string ⟨#[120]⟩, .int .i64 0, .string ⟨#[121]⟩, .int .i64 0, .string ⟨#[122]⟩, .int .i64 0] 77)).alloc (.cells #[.string ⟨#[115]⟩, .string ⟨#[97]⟩] 9)).alloc (.cells #[.int .i64 5, .int .i64 4, .int .i64 1] 3)).alloc (.cells #[.int .i64 2] 3)).alloc (.cells #[.int .i64 3] 3)).alloc (.cells #[.int .i64 4, .slice (some ⟨w.heap.size + 1 + 1 + 1, 0, none⟩) 3 3, .int .i64 0, .int .i64 4, .slice (some ⟨w.heap.size + 1 + 1 + 1 + 1, 0, none⟩) 1 1, .int .i64 0, .int .i64 5, .slice none 0 0, .int .i64 0, .int .i64 5, .slice (some ⟨w.heap.size + 1 + 1 + 1 + 1 + 1, 0, none⟩) 1 1, .int .i64 0] 51)).heap[w.heap.size + 1]? = some (.cells #[.string ⟨#[]⟩, .int .i64 0, .string ⟨#[120]⟩, .int .i64 0, .string ⟨#[121]⟩, .int .i64 0, .string ⟨#[122]⟩, .int .i64 0] 77 (0, 0)) ∧ (((((((w.alloc (.cells cs 27)).alloc (.cells #[.string ⟨#[]⟩, .int .i64 0, .string ⟨#[120]⟩, .int .i64 0, .string ⟨#[121]⟩, .int .i64 0, .string ⟨#[122]⟩, .int .i64 0] 77)).alloc (.cells #[.string ⟨#[115]⟩, .string ⟨#[97]⟩] 9)).alloc (.cells #[.int .i64 5, .int .i64 4, .int .i64 1] 3)).alloc (.cells #[.int .i64 2] 3)).alloc (.cells #[.int .i64 3] 3)).alloc (.cells #[.int .i64 4, .slice (some ⟨w.heap.size + 1 + 1 + 1, 0, none⟩) 3 3, .int .i64 0, .int .i64 4, .slice (some ⟨w.heap.size + 1 + 1 + 1 + 1, 0, none⟩) 1 1, .int .i64 0, .int .i64 5, .slice none 0 0, .int .i64 0, .int .i64 5, .slice (some ⟨w.heap.size + 1 + 1 + 1 + 1 + 1, 0, none⟩) 1 1, .int .i64 0] 51)).heap[w.heap.size + 1 + 1]? = some (.cells #[.string ⟨#[115]⟩, .string ⟨#[97]⟩] 9 (0, 0)) ∧ (((((((w.alloc (.cells cs 27)).alloc (.cells #[.string ⟨#[]⟩, .int .i64 0, .string ⟨#[120]⟩, .int .i64 0, .string ⟨#[121]⟩, .int .i64 0, .string ⟨#[122]⟩, .int .i64 0] 77)).alloc (.cells #[.string ⟨#[115]⟩, .string ⟨#[97]⟩] 9)).alloc (.cells #[.int .i64 5, .int .i64 4, .int .i64 1] 3)).alloc (.cells #[.int .i64 2] 3)).alloc (.cells #[.int .i64 3] 3)).alloc (.cells #[.int .i64 4, .slice (some ⟨w.heap.size + 1 + 1 + 1, 0, none⟩) 3 3, .int .i64 0, .int .i64 4, .slice (some ⟨w.heap.size + 1 + 1 + 1 + 1, 0, none⟩) 1 1, .int .i64 0, .int .i64 5, .slice none 0 0, .int .i64 0, .int .i64 5, .slice (some ⟨w.heap.size + 1 + 1 + 1 + 1 + 1, 0, none⟩) 1 1, .int .i64 0] 51)).heap[w.heap.size + 1 + 1 + 1]? = some (.cells #[.int .i64 5, .int .i64 4, .int .i64 1] 3 (0, 0)) ∧ (((((((w.alloc (.cells cs 27)).alloc (.cells #[.string ⟨#[]⟩, .int .i64 0, .string ⟨#[120]⟩, .int .i64 0, .string ⟨#[121]⟩, .int .i64 0, .string ⟨#[122]⟩, .int .i64 0] 77)).alloc (.cells #[.string ⟨#[115]⟩, .string ⟨#[97]⟩] 9)).alloc (.cells #[.int .i64 5, .int .i64 4, .int .i64 1] 3)).alloc (.cells #[.int .i64 2] 3)).alloc (.cells #[.int .i64 3] 3)).alloc (.cells #[.int .i64 4, .slice (some ⟨w.heap.size + 1 + 1 + 1, 0, none⟩) 3 3, .int .i64 0, .int .i64 4, .slice (some ⟨w.heap.size + 1 + 1 + 1 + 1, 0, none⟩) 1 1, .int .i64 0, .int .i64 5, .slice none 0 0, .int .i64 0, .int .i64 5, .slice (some ⟨w.heap.size + 1 + 1 + 1 + 1 + 1, 0, none⟩) 1 1, .int .i64 0] 51)).heap[w.heap.size + 1 + 1 + 1 + 1]? = some (.cells #[.int .i64 2] 3 (0, 0)) ∧ (((((((w.alloc (.cells cs 27)).alloc (.cells #[.string ⟨#[]⟩, .int .i64 0, .string ⟨#[120]⟩, .int .i64 0, .string ⟨#[121]⟩, .int .i64 0, .string ⟨#[122]⟩, .int .i64 0] 77)).alloc (.cells #[.string ⟨#[115]⟩, .string ⟨#[97]⟩] 9)).alloc (.cells #[.int .i64 5, .int .i64 4, .int .i64 1] 3)).alloc (.cells #[.int .i64 2] 3)).alloc (.cells #[.int .i64 3] 3)).alloc (.cells #[.int .i64 4, .slice (some ⟨w.heap.size + 1 + 1 + 1, 0, none⟩) 3 3, .int .i64 0, .int .i64 4, .slice (some ⟨w.heap.size + 1 + 1 + 1 + 1, 0, none⟩) 1 1, .int .i64 0, .int .i64 5, .slice none 0 0, .int .i64 0, .int .i64 5, .slice (some ⟨w.heap.size + 1 + 1 + 1 + 1 + 1, 0, none⟩) 1 1, .int .i64 0] 51)).heap[w.heap.size + 1 + 1 + 1 + 1 + 1]? = some (.cells #[.int .i64 3] 3 (0, 0)) ∧ (((((((w.alloc (.cells cs 27)).alloc (.cells #[.string ⟨#[]⟩, .int .i64 0, .string ⟨#[120]⟩, .int .i64 0, .string ⟨#[121]⟩, .int .i64 0, .string ⟨#[122]⟩, .int .i64 0] 77)).alloc (.cells #[.string ⟨#[115]⟩, .string ⟨#[97]⟩] 9)).alloc (.cells #[.int .i64 5, .int .i64 4, .int .i64 1] 3)).alloc (.cells #[.int .i64 2] 3)).alloc (.cells #[.int .i64 3] 3)).alloc (.cells #[.int .i64 4, .slice (some ⟨w.heap.size + 1 + 1 + 1, 0, none⟩) 3 3, .int .i64 0, .int .i64 4, .slice (some ⟨w.heap.size + 1 + 1 + 1 + 1, 0, none⟩) 1 1, .int .i64 0, .int .i64 5, .slice none 0 0, .int .i64 0, .int .i64 5, .slice (some ⟨w.heap.size + 1 + 1 + 1 + 1 + 1, 0, none⟩) 1 1, .int .i64 0] 51)).heap[w.heap.size + 1 + 1 + 1 + 1 + 1 + 1]? = some (.cells #[.int .i64 4, .slice (some ⟨w.heap.size + 1 + 1 + 1, 0, none⟩) 3 3, .int .i64 0, .int .i64 4, .slice (some ⟨w.heap.size + 1 + 1 + 1 + 1, 0, none⟩) 1 1, .int .i64 0, .int .i64 5, .slice none 0 0, .int .i64 0, .int .i64 5, .slice (some ⟨w.heap.size + 1 + 1 + 1 + 1 + 1, 0, none⟩) 1 1, .int .i64 0] 51 (0, 0))) ∧ w.grownBy (((((((w.alloc (.cells cs 27)).alloc (.cells #[.string ⟨#[]⟩, .int .i64 0, .string ⟨#[120]⟩, .int .i64 0, .string ⟨#[121]⟩, .int .i64 0, .string ⟨#[122]⟩, .int .i64 0] 77)).alloc (.cells #[.string ⟨#[115]⟩, .string ⟨#[97]⟩] 9)).alloc (.cells #[.int .i64 5, .int .i64 4, .int .i64 1] 3)).alloc (.cells #[.int .i64 2] 3)).alloc (.cells #[.int .i64 3] 3)).alloc (.cells #[.int .i64 4, .slice (some ⟨w.heap.size + 1 + 1 + 1, 0, none⟩) 3 3, .int .i64 0, .int .i64 4, .slice (some ⟨w.heap.size + 1 + 1 + 1 + 1, 0, none⟩) 1 1, .int .i64 0, .int .i64 5, .slice none 0 0, .int .i64 0, .int .i64 5, .slice (some ⟨w.heap.size + 1 + 1 + 1 + 1 + 1, 0, none⟩) 1 1, .int .i64 0] 51)) none := by
  have g0 := World.grownBy_alloc w (.cells cs 27) none
  have c0 := heap_alloc_last w (.cells cs 27)
  have g1 := World.grownBy_alloc (w.alloc (.cells cs 27)) (.cells #[.string ⟨#[]⟩, .int .i64 0, .string ⟨#[120]⟩, .int .i64 0, .string ⟨#[121]⟩, .int .i64 0, .string ⟨#[122]⟩, .int .i64 0] 77) none
  have c1 := heap_alloc_last (w.alloc (.cells cs 27)) (.cells #[.string ⟨#[]⟩, .int .i64 0, .string ⟨#[120]⟩, .int .i64 0, .string ⟨#[121]⟩, .int .i64 0, .string ⟨#[122]⟩, .int .i64 0] 77)
  rw [World.size_alloc] at c1
  have g2 := World.grownBy_alloc ((w.alloc (.cells cs 27)).alloc (.cells #[.string ⟨#[]⟩, .int .i64 0, .string ⟨#[120]⟩, .int .i64 0, .string ⟨#[121]⟩, .int .i64 0, .string ⟨#[122]⟩, .int .i64 0] 77)) (.cells #[.string ⟨#[115]⟩, .string ⟨#[97]⟩] 9) none
  have c2 := heap_alloc_last ((w.alloc (.cells cs 27)).alloc (.cells #[.string ⟨#[]⟩, .int .i64 0, .string ⟨#[120]⟩, .int .i64 0, .string ⟨#[121]⟩, .int .i64 0, .string ⟨#[122]⟩, .int .i64 0] 77)) (.cells #[.string ⟨#[115]⟩, .string ⟨#[97]⟩] 9)
  rw [World.size_alloc, World.size_alloc] at c2
  have g3 := World.grownBy_alloc (((w.alloc (.cells cs 27)).alloc (.cells #[.string ⟨#[]⟩, .int .i64 0, .string ⟨#[120]⟩, .int .i64 0, .string ⟨#[121]⟩, .int .i64 0, .string ⟨#[122]⟩, .int .i64 0] 77)).alloc (.cells #[.string ⟨#[115]⟩, .string ⟨#[97]⟩] 9)) (.cells #[.int .i64 5, .int .i64 4, .int .i64 1] 3) none
  have c3 := heap_alloc_last (((w.alloc (.cells cs 27)).alloc (.cells #[.string ⟨#[]⟩, .int .i64 0, .string ⟨#[120]⟩, .int .i64 0, .string ⟨#[121]⟩, .int .i64 0, .string ⟨#[122]⟩, .int .i64 0] 77)).alloc (.cells #[.string ⟨#[115]⟩, .string ⟨#[97]⟩] 9)) (.cells #[.int .i64 5, .int .i64 4, .int .i64 1] 3)
  rw [World.size_alloc, World.size_alloc, World.size_alloc] at c3
  have g4 := World.grownBy_alloc ((((w.alloc (.cells cs 27)).alloc (.cells #[.string ⟨#[]⟩, .int .i64 0, .string ⟨#[120]⟩, .int .i64 0, .string ⟨#[121]⟩, .int .i64 0, .string ⟨#[122]⟩, .int .i64 0] 77)).alloc (.cells #[.string ⟨#[115]⟩, .string ⟨#[97]⟩] 9)).alloc (.cells #[.int .i64 5, .int .i64 4, .int .i64 1] 3)) (.cells #[.int .i64 2] 3) none
  have c4 := heap_alloc_last ((((w.alloc (.cells cs 27)).alloc (.cells #[.string ⟨#[]⟩, .int .i64 0, .string ⟨#[120]⟩, .int .i64 0, .string ⟨#[121]⟩, .int .i64 0, .string ⟨#[122]⟩, .int .i64 0] 77)).alloc (.cells #[.string ⟨#[115]⟩, .string ⟨#[97]⟩] 9)).alloc (.cells #[.int .i64 5, .int .i64 4, .int .i64 1] 3)) (.cells #[.int .i64 2] 3)
  rw [World.size_alloc, World.size_alloc, World.size_alloc, World.size_alloc] at c4
  have g5 := World.grownBy_alloc (((((w.alloc (.cells cs 27)).alloc (.cells #[.string ⟨#[]⟩, .int .i64 0, .string ⟨#[120]⟩, .int .i64 0, .string ⟨#[121]⟩, .int .i64 0, .string ⟨#[122]⟩, .int .i64 0] 77)).alloc (.cells #[.string ⟨#[115]⟩, .string ⟨#[97]⟩] 9)).alloc (.cells #[.int .i64 5, .int .i64 4, .int .i64 1] 3)).alloc (.cells #[.int .i64 2] 3)) (.cells #[.int .i64 3] 3) none
  have c5 := heap_alloc_last (((((w.alloc (.cells cs 27)).alloc (.cells #[.string ⟨#[]⟩, .int .i64 0, .string ⟨#[120]⟩, .int .i64 0, .string ⟨#[121]⟩, .int .i64 0, .string ⟨#[122]⟩, .int .i64 0] 77)).alloc (.cells #[.string ⟨#[115]⟩, .string ⟨#[97]⟩] 9)).alloc (.cells #[.int .i64 5, .int .i64 4, .int .i64 1] 3)).alloc (.cells #[.int .i64 2] 3)) (.cells #[.int .i64 3] 3)
  rw [World.size_alloc, World.size_alloc, World.size_alloc, World.size_alloc, World.size_alloc] at c5
  have g6 := World.grownBy_alloc ((((((w.alloc (.cells cs 27)).alloc (.cells #[.string ⟨#[]⟩, .int .i64 0, .string ⟨#[120]⟩, .int .i64 0, .string ⟨#[121]⟩, .int .i64 0, .string ⟨#[122]⟩, .int .i64 0] 77)).alloc (.cells #[.string ⟨#[115]⟩, .string ⟨#[97]⟩] 9)).alloc (.cells #[.int .i64 5, .int .i64 4, .int .i64 1] 3)).alloc (.cells #[.int .i64 2] 3)).alloc (.cells #[.int .i64 3] 3)) (.cells #[.int .i64 4, .slice (some ⟨w.heap.size + 1 + 1 + 1, 0, none⟩) 3 3, .int .i64 0, .int .i64 4, .slice (some ⟨w.heap.size + 1 + 1 + 1 + 1, 0, none⟩) 1 1, .int .i64 0, .int .i64 5, .slice none 0 0, .int .i64 0, .int .i64 5, .slice (some ⟨w.heap.size + 1 + 1 + 1 + 1 + 1, 0, none⟩) 1 1, .int .i64 0] 51) none
  have c6 := heap_alloc_last ((((((w.alloc (.cells cs 27)).alloc (.cells #[.string ⟨#[]⟩, .int .i64 0, .string ⟨#[120]⟩, .int .i64 0, .string ⟨#[121]⟩, .int .i64 0, .string ⟨#[122]⟩, .int .i64 0] 77)).alloc (.cells #[.string ⟨#[115]⟩, .string ⟨#[97]⟩] 9)).alloc (.cells #[.int .i64 5, .int .i64 4, .int .i64 1] 3)).alloc (.cells #[.int .i64 2] 3)).alloc (.cells #[.int .i64 3] 3)) (.cells #[.int .i64 4, .slice (some ⟨w.heap.size + 1 + 1 + 1, 0, none⟩) 3 3, .int .i64 0, .int .i64 4, .slice (some ⟨w.heap.size + 1 + 1 + 1 + 1, 0, none⟩) 1 1, .int .i64 0, .int .i64 5, .slice none 0 0, .int .i64 0, .int .i64 5, .slice (some ⟨w.heap.size + 1 + 1 + 1 + 1 + 1, 0, none⟩) 1 1, .int .i64 0] 51)
  rw [World.size_alloc, World.size_alloc, World.size_alloc, World.size_alloc, World.size_alloc, World.size_alloc] at c6
  have c0 := (boxKept c0 g1).out
  have c0 := (boxKept c0 g2).out
  have c0 := (boxKept c0 g3).out
  have c0 := (boxKept c0 g4).out
  have c0 := (boxKept c0 g5).out
  have c0 := (boxKept c0 g6).out
  have c1 := (boxKept c1 g2).out
  have c1 := (boxKept c1 g3).out
  have c1 := (boxKept c1 g4).out
  have c1 := (boxKept c1 g5).out
  have c1 := (boxKept c1 g6).out
  have c2 := (boxKept c2 g3).out
  have c2 := (boxKept c2 g4).out
  have c2 := (boxKept c2 g5).out
  have c2 := (boxKept c2 g6).out
  have c3 := (boxKept c3 g4).out
  have c3 := (boxKept c3 g5).out
  have c3 := (boxKept c3 g6).out
  have c4 := (boxKept c4 g5).out
  have c4 := (boxKept c4 g6).out
  have c5 := (boxKept c5 g6).out
  exact ⟨⟨c0, c1, c2, c3, c4, c5, c6⟩, (grown_trans g0 (grown_trans g1 (grown_trans g2 (grown_trans g3 (grown_trans g4 (grown_trans g5 g6))))))⟩

set_option maxRecDepth 100000 in
set_option maxHeartbeats 1000000 in
theorem small_any (w : World) : Calls Tryd.prog 26 #[] w fun e y => ∃ b1 b2 b6 ra rc, e = .returned (.agg #[.slice (some ⟨b1, 0, none⟩) 4 4, .slice (some ⟨b2, 0, none⟩) 2 2, .slice none 0 0, .int .i64 4, .slice (some ⟨b6, 0, none⟩) 4 4]) ∧ GAt y (some ⟨b1, 0, none⟩) (some ⟨b2, 0, none⟩) none (some ⟨b6, 0, none⟩) 4 2 0 4 kTs kNs [] 4 kL kR ra rc (fun _ => 0) ∧ w.grownBy y none := by
  have HC := show Hid _ from k_chain w #[.slice (some ⟨w.heap.size + 1, 0, none⟩) 4 4, .slice (some ⟨w.heap.size + 1 + 1, 0, none⟩) 2 2, .slice none 0 0, .int .i64 4, .slice (some ⟨w.heap.size + 1 + 1 + 1 + 1 + 1 + 1, 0, none⟩) 4 4]
  go_enter Tryd.func26, Tryd.ntmps26
  go_wp2_with fail
  obtain ⟨⟨c0, c1, c2, c3, c4, c5, c6⟩, hg⟩ := HC.out
  obtain ⟨ra, rc, hG⟩ := k_gat c1 c2 c3 c4 c5 c6
  exact bodyPost_ret (v := .agg #[.slice (some ⟨w.heap.size + 1, 0, none⟩) 4 4, .slice (some ⟨w.heap.size + 1 + 1, 0, none⟩) 2 2, .slice none 0 0, .int .i64 4, .slice (some ⟨w.heap.size + 1 + 1 + 1 + 1 + 1 + 1, 0, none⟩) 4 4]) (results_cell_row (fr := (0, 0)) rfl _ _ w.heap.size 27 #[.slice (some ⟨w.heap.size + 1, 0, none⟩) 4 4, .slice (some ⟨w.heap.size + 1 + 1, 0, none⟩) 2 2, .slice none 0 0, .int .i64 4, .slice (some ⟨w.heap.size + 1 + 1 + 1 + 1 + 1 + 1, 0, none⟩) 4 4] _ rfl c0 Tryd.underlying27 rfl infoGramK) rfl ⟨_, _, _, ra, rc, rfl, hG, hg⟩

end Go.Proofs.YtdhojilmgnodeaaDoor

/-
  first: the law's awake.
-/
namespace Go.Proofs.YtdhojilmgnodeaaDoor
open Go.RowKit Go.Maps Go.Shelf

attribute [local go_sem] Oper.semAt_some

set_option maxRecDepth 100000 in
set_option maxHeartbeats 2000000 in
theorem kawake_any (w : World) (hT : B.Tab w) (h0 : 0 < w.heap.size) : Calls Tryd.prog 8 #[] w fun e w' => e = .returned (.bool true) ∧ w.grownBy w' none := by
  have HTB : Hid (∀ X, w.grownBy X none → B.Tab X ∧ 0 < X.heap.size) := fun X hX => ⟨Tab_kept hT hX h0, Nat.lt_of_lt_of_le h0 hX.size⟩
  clear hT h0
  go_enter Tryd.func8, Tryd.ntmps8
  go_wp2_with fail
  refine Calls.mono (small_any w) ?_
  rintro e w1 ⟨b1, b2, b6, ra, rc, rfl, hG1, hg1⟩
  have hM : MayOK 4 2 4 4 kL kR false := mayOK_valid k_valid
  have HNU : Hid (∀ X, w1.grownBy X none → Calls Tryd.prog 10 #[.agg #[.slice (some ⟨b1, 0, none⟩) 4 4, .slice (some ⟨b2, 0, none⟩) 2 2, .slice none 0 0, .int .i64 4, .slice (some ⟨b6, 0, none⟩) 4 4]] X fun e y => ∃ k, e = .returned (.tuple #[.slice (some ⟨k, 0, none⟩) 2 2, .int .i64 0]) ∧ X.heap.size ≤ k ∧ ValAt y k 2 4 (fun i => .bool (Nat.testBit 32 (4 + i))) ∧ X.grownBy y none) := fun X hX => nullable_ok _ _ _ _ _ _ _ _ kTs kNs [] 4 kL kR ra rc (fun _ => 0) 4 X 4 2 0 ⟨rfl, rfl, rfl⟩ (hG1.kept hX) (.inl k_valid) hM _ k_fof.nul
  have HSE : Hid (∀ X, w1.grownBy X none → Calls Tryd.prog 13 #[.agg #[.slice (some ⟨b1, 0, none⟩) 4 4, .slice (some ⟨b2, 0, none⟩) 2 2, .slice none 0 0, .int .i64 4, .slice (some ⟨b6, 0, none⟩) 4 4]] X fun e y => SetsTold 2 (fun i => B.mems 1024 (kM (4 + i))) X e y) := fun X hX => sets_ok _ _ _ _ _ _ _ _ kTs kNs [] 4 kL kR ra rc (fun _ => 0) 4 X 4 2 0 ⟨rfl, rfl, rfl⟩ (hG1.kept hX) (.inl k_valid) hM _ _ k_fof (HTB.out X (grown_trans hg1 hX)).1 (HTB.out X (grown_trans hg1 hX)).2 _ (fun _ => rfl)
  have HRW : Hid (∀ X, w1.grownBy X none → ∀ b, IntsAt X (some ⟨b, 0, none⟩) [5, 5] → Calls Tryd.prog 17 #[.agg #[.slice (some ⟨b1, 0, none⟩) 4 4, .slice (some ⟨b2, 0, none⟩) 2 2, .slice none 0 0, .int .i64 4, .slice (some ⟨b6, 0, none⟩) 4 4], .slice (some ⟨b, 0, none⟩) 2 2] X fun e y => ∃ ab ao c, e = .returned (.tuple #[.slice (some ⟨ab, ao, none⟩) 1 c, .bool true, .int .i64 0]) ∧ y.cell? ⟨ab, ao, none⟩ = some (.int .i64 3) ∧ X.grownBy y none) := fun X hX b hb => by
    refine (row_ok _ _ _ _ _ _ _ _ kTs kNs [] 4 kL kR ra rc (fun _ => 0) 4 X 4 2 0 ⟨rfl, rfl, rfl⟩ (hG1.kept hX) (some ⟨b, 0, none⟩) 2 [5, 5] hb (by decide) (.inl k_valid) hM (by intro x hx; simp at hx; omega) (HTB.out X (grown_trans hg1 hX)).1 (HTB.out X (grown_trans hg1 hX)).2 true 8 k_row.1 k_row.2).mono ?_
    rintro e y ⟨a, c, rfl, ho, hg⟩
    rw [mems8] at ho
    have hi := (RowIn.of (l := [3]) ho (Nat.zero_le _)).ints
    rcases hi with h | ⟨ab, ao, rfl, hc⟩
    · cases h
    · exact ⟨ab, ao, c, by rw [mems8]; rfl, hc 0 (by decide), hg⟩
  obtain ⟨gb, hgb⟩ : ∃ gb, gb = w1.heap.size := ⟨_, rfl⟩
  obtain ⟨X1, hX1⟩ : ∃ X1, X1 = w1.alloc (.cells #[.slice (some ⟨b1, 0, none⟩) 4 4, .slice (some ⟨b2, 0, none⟩) 2 2, .slice none 0 0, .int .i64 4, .slice (some ⟨b6, 0, none⟩) 4 4] 27) := ⟨_, rfl⟩
  have HP1 : Hid (PhAt w1 X1 gb #[.slice (some ⟨b1, 0, none⟩) 4 4, .slice (some ⟨b2, 0, none⟩) 2 2, .slice none 0 0, .int .i64 4, .slice (some ⟨b6, 0, none⟩) 4 4]) := ⟨by rw [hX1]; exact World.grownBy_alloc _ _ none, by rw [hX1, hgb]; exact heap_alloc_last w1 _⟩
  have HGW : Hid (w.grownBy w1 none) := hg1
  have HXE := show Hid _ from hX1
  have HGE := show Hid _ from hgb
  clear hG1 hg1 hM hX1 hgb
  go_wp2_with fail
  rw [← HXE.out, ← HGE.out]
  refine Calls.mono (HNU.out X1 HP1.out.grown) ?_
  rintro e w2 ⟨kn, rfl, _, hV2, hg2⟩
  have HP2 : Hid (PhAt w1 w2 gb #[.slice (some ⟨b1, 0, none⟩) 4 4, .slice (some ⟨b2, 0, none⟩) 2 2, .slice none 0 0, .int .i64 4, .slice (some ⟨b6, 0, none⟩) 4 4]) := HP1.out.kept hg2
  have HV2 : Hid (ValAt w2 kn 2 4 (fun i => .bool (Nat.testBit 32 (4 + i)))) := hV2
  clear hV2 hg2 HP1 HXE HGE
  obtain ⟨k0, k1, k2, k3, k4⟩ := HP2.out.cells
  go_wp2_with fail
  refine Calls.mono (HSE.out w2 HP2.out.grown) ?_
  rintro e w3 ⟨ks, ua, uc, rfl, _, hV3, _, hg3⟩
  have HP3 : Hid (PhAt w1 w3 gb #[.slice (some ⟨b1, 0, none⟩) 4 4, .slice (some ⟨b2, 0, none⟩) 2 2, .slice none 0 0, .int .i64 4, .slice (some ⟨b6, 0, none⟩) 4 4]) := HP2.out.kept hg3
  have HV3 : Hid (ValAt w3 ks 2 24 (fun i => .slice (ua i) (B.mems 1024 (kM (4 + i))).length (uc i)) ∧ ValAt w3 kn 2 4 (fun i => .bool (Nat.testBit 32 (4 + i)))) := ⟨hV3, HV2.out.kept hg3⟩
  clear hV3 hg3 HP2 HV2 k0 k1 k2 k3 k4
  obtain ⟨k0, k1, k2, k3, k4⟩ := HP3.out.cells
  have HRC : Hid (Calls Tryd.prog 17 #[.agg #[.slice (some ⟨b1, 0, none⟩) 4 4, .slice (some ⟨b2, 0, none⟩) 2 2, .slice none 0 0, .int .i64 4, .slice (some ⟨b6, 0, none⟩) 4 4], .slice (some ⟨w3.heap.size, 0, none⟩) 2 2] (w3.alloc (.cells #[.int .i64 5, .int .i64 5] 3)) fun e y => ∃ ab ao c, e = .returned (.tuple #[.slice (some ⟨ab, ao, none⟩) 1 c, .bool true, .int .i64 0]) ∧ y.cell? ⟨ab, ao, none⟩ = some (.int .i64 3) ∧ (w3.alloc (.cells #[.int .i64 5, .int .i64 5] 3)).grownBy y none) :=
    HRW.out _ (grown_trans HP3.out.grown (World.grownBy_alloc _ _ none)) w3.heap.size (.inr ⟨w3.heap.size, 0, rfl, fun i hi => by
      have h2 : i = 0 ∨ i = 1 := by simp at hi; omega
      rcases h2 with rfl | rfl <;> (rw [cell_of_row _ _ _ _ _ _ (heap_alloc_last w3 _)]; rfl)⟩)
  go_wp2_with fail
  refine Calls.mono HRC.out ?_
  rintro e w4 ⟨ab, ao, c4, rfl, hc4, hg4⟩
  have hg34 := grown_trans (World.grownBy_alloc w3 (.cells #[.int .i64 5, .int .i64 5] 3) none) hg4
  have s0 := (HV3.out.1.kept hg34).cell 0 (by decide)
  have n0 := (HV3.out.2.kept hg34).cell 0 (by decide)
  have n1 := (HV3.out.2.kept hg34).cell 1 (by decide)
  rw [show (B.mems 1024 (kM (4 + 0))).length = 2 by rw [show kM (4 + 0) = 12 from rfl, mems12]; rfl] at s0
  rw [show Nat.testBit 32 (4 + 0) = false from rfl] at n0
  rw [show Nat.testBit 32 (4 + 1) = true from rfl] at n1
  have HG4 : Hid (w.grownBy w4 none) := grown_trans HGW.out (grown_trans HP3.out.grown hg34)
  clear hg4 hg34 HRC HV3 HP3 k0 k1 k2 k3 k4 HGW HNU HSE HRW
  go_wp2_with fail
  go_ret
  exact ⟨rfl, HG4.out⟩

end Go.Proofs.YtdhojilmgnodeaaDoor

/-
  first: the law's both; the document's Ints of two lists that are the same.
-/
namespace Go.Proofs.YtdhojilmgnodeaaDoor
open Go.RowKit Go.Maps Go.Shelf

attribute [local go_sem] Oper.semAt_some

/-- The numbers below k of two lists, each once, rising. -/
def bothTo (la lb : List Int) (k : Nat) : List Int := ((List.range k).filter fun i : Nat => la.contains (i : Int) || lb.contains (i : Int)).map fun i : Nat => (i : Int)
theorem bothTo_succ (la lb : List Int) (k : Nat) : bothTo la lb (k + 1) = bothTo la lb k ++ (if (la.contains (k : Int) || lb.contains (k : Int)) = true then [(k : Int)] else []) := by
  unfold bothTo
  rw [List.range_succ, List.filter_append, List.map_append]
  cases h : (la.contains (k : Int) || lb.contains (k : Int)) <;> simp only [List.filter_cons, h, List.filter_nil] <;> rfl
theorem bothTo_len (la lb : List Int) (k : Nat) : (bothTo la lb k).length ≤ k := by
  unfold bothTo
  rw [List.length_map]
  have := List.length_filter_le (fun i : Nat => la.contains (i : Int) || lb.contains (i : Int)) (List.range k)
  rwa [List.length_range] at this
theorem take_contains {l : List Int} {j : Nat} (hj : j < l.length) (k : Int) : (l.take (j + 1)).contains k = ((l.take j).contains k || (l.getD j 0 == k)) := by
  have e : l.getD j 0 = l[j] := by rw [List.getD_eq_getElem?_getD, List.getElem?_eq_getElem hj]; rfl
  rw [List.take_succ_eq_append_getElem hj, ← e]
  generalize l.getD j 0 = x
  have e2 : (x == k) = (k == x) := by
    by_cases h : x = k
    · rw [h]
    · rw [beq_eq_false_iff_ne.2 h, beq_eq_false_iff_ne.2 fun h2 => h h2.symm]
  rw [e2]
  cases h1 : (l.take j).contains k
  · simp_all
    rfl
  · simp_all

/-- The answer of both. -/
def BothTold (L : List Int) (w : World) (e : Ending) (y : World) : Prop :=
  ∃ (a : Option Addr) (c : Nat), e = .returned (.slice a L.length c) ∧ y.ownsRow w.heap.size 3 1 (.slice a L.length c) L.length (L.map (Value.int .i64)) ∧ w.grownBy y none

set_option maxRecDepth 100000 in
set_option maxHeartbeats 2000000 in
theorem both_any (a1 a2 : Option Addr) (c1 c2 : Nat) (la lb : List Int) (w : World) (h1 : IntsAt w a1 la) (h2 : IntsAt w a2 lb) (hn1 : la.length ≤ 17592186044416) (hn2 : lb.length ≤ 17592186044416) :
    Calls Tryd.prog 22 #[.slice a1 la.length c1, .slice a2 lb.length c2] w fun e y => BothTold (bothTo la lb 65) w e y := by
  have H1 : Hid (∀ X, w.grownBy X none → IntsAt X a1 la) := fun X hX => h1.kept hX
  have H2 : Hid (∀ X, w.grownBy X none → IntsAt X a2 lb) := fun X hX => h2.kept hX
  obtain ⟨n1, he1⟩ : ∃ n, n = la.length := ⟨_, rfl⟩
  obtain ⟨n2, he2⟩ : ∃ n, n = lb.length := ⟨_, rfl⟩
  have HE1 : Hid (n1 = la.length) := he1
  have HE2 : Hid (n2 = lb.length) := he2
  rw [← he1] at hn1
  rw [← he2] at hn2
  rw [← he1, ← he2]
  obtain ⟨i0, hi0, hz0, hz1, hz2⟩ := info_parts infoIntK
  clear h1 h2 he1 he2
  go_enter Tryd.func22, Tryd.ntmps22
  go_wp2_with fail
  go_loopg [5, 6] 65 (fun gk v5 v6 wr => ∃ (k : Nat) (a' : Option Addr) (c' : Nat), k ≤ 65 ∧ gk = 65 - k ∧ v6 = .int .i64 k ∧ v5 = .slice a' (bothTo la lb k).length c' ∧ w.grownBy wr none ∧ wr.ownsRow w.heap.size 3 1 (.slice a' (bothTo la lb k).length c') (bothTo la lb k).length ((bothTo la lb k).map (Value.int .i64)))
  case atStart => exact ⟨0, none, 0, by decide, rfl, rfl, rfl, grown_refl _ _, World.ownsRow_nil _ _ _ _⟩
  case round =>
    obtain ⟨k, a', c', hk, hgk, rfl, rfl, hg, ho⟩ := hrel
    have HGK : Hid (gk = 65 - k) := hgk
    have HG : Hid (w.grownBy wr none) := hg
    obtain ⟨ol, hol⟩ : ∃ o, o = (bothTo la lb k).length := ⟨_, rfl⟩
    have HOL : Hid (ol = (bothTo la lb k).length) := hol
    have holb : ol ≤ 65 := by rw [hol]; exact Nat.le_trans (bothTo_len la lb k) hk
    rw [← hol] at ho
    rw [← hol]
    have HO := show Hid _ from ho
    clear hgk hg ho hol
    generalize wr = w3 at *
    by_cases hlt : k < 65
    · have hkd : decide ((k : Int) < 65) = true := decide_eq_true (by omega)
      have hkd2 : decide (k < 65) = true := decide_eq_true hlt
      go_wp2_with fail
      go_loopg [7, 8] n1 (fun gk v7 v8 wr => ∃ (j : Nat), j ≤ n1 ∧ gk = n1 - j ∧ v7 = .bool ((la.take j).contains (k : Int)) ∧ v8 = .int .i64 j ∧ wr = w3)
      case atStart => exact ⟨0, Nat.zero_le _, rfl, rfl, rfl, rfl⟩
      case round =>
        obtain ⟨j, hj, hgj, rfl, rfl, rfl⟩ := hrel
        have HGJ : Hid (gk = n1 - j) := hgj
        clear hgj
        by_cases hjl : j < n1
        · have hjl2 : j < la.length := by rw [← HE1.out]; exact hjl
          obtain ⟨ab, ao, rfl, hc⟩ : ∃ ab ao, a1 = some ⟨ab, ao, none⟩ ∧ wr.cell? ⟨ab, ao + j, none⟩ = some (.int .i64 (la.getD j 0)) := by
            rcases H1.out wr HG.out with h | ⟨ab, ao, e, h⟩
            · rw [h] at hjl2; cases hjl2
            · exact ⟨ab, ao, e, h j hjl2⟩
          have HTC := show Hid _ from take_contains hjl2 (k : Int)
          obtain ⟨x, hx⟩ : ∃ x, x = la.getD j 0 := ⟨_, rfl⟩
          rw [← hx] at hc HTC
          obtain ⟨b, hb⟩ : ∃ b, b = (la.take j).contains (k : Int) := ⟨_, rfl⟩
          rw [← hb] at HTC
          rw [← hb]
          have hj0 : (0 : Int) ≤ (j : Int) := by omega
          have hj1 : (j : Int) < (n1 : Int) := by omega
          have hjd : decide (j < n1) = true := decide_eq_true hjl
          clear hx hb
          cases b with
          | true =>
            go_wp2_with fail
            go_roundg (n1 - (j + 1))
            case measure => have := HGJ.out; omega
            case rel => exact ⟨j + 1, by omega, rfl, by rw [HTC.out]; rfl, by go_num, rfl⟩
          | false =>
            obtain ⟨q, hq⟩ : ∃ q, q = (x == (k : Int)) := ⟨_, rfl⟩
            have HQ : Hid (q = (x == (k : Int))) := hq
            have hqx : (x == (k : Int)) = q := hq.symm
            clear hq
            go_wp2_with fail
            go_roundg (n1 - (j + 1))
            case measure => have := HGJ.out; omega
            case rel => exact ⟨j + 1, by omega, rfl, by rw [HTC.out, ← HQ.out]; rfl, by go_num, rfl⟩
        · have hjn : n1 = j := by omega
          subst hjn
          have hjd : decide (n1 < n1) = false := decide_eq_false (by omega)
          have et : la.take n1 = la := by rw [HE1.out]; exact List.take_length
          rw [et]
          obtain ⟨b, hb⟩ : ∃ b, b = la.contains (k : Int) := ⟨_, rfl⟩
          have HB : Hid (b = la.contains (k : Int)) := hb
          rw [← hb]
          clear hb et HGJ
          generalize wr = w3 at *
          go_wp2_with fail
          go_loopg [7, 9] n2 (fun gk v7 v9 wr => ∃ (j : Nat), j ≤ n2 ∧ gk = n2 - j ∧ v7 = .bool (b || (lb.take j).contains (k : Int)) ∧ v9 = .int .i64 j ∧ wr = w3)
          case atStart => exact ⟨0, Nat.zero_le _, rfl, by simp, rfl, rfl⟩
          case round =>
            obtain ⟨j, hj, hgj, rfl, rfl, rfl⟩ := hrel
            have HGJ : Hid (gk = n2 - j) := hgj
            clear hgj
            by_cases hjl : j < n2
            · have hjl2 : j < lb.length := by rw [← HE2.out]; exact hjl
              obtain ⟨ab, ao, rfl, hc⟩ : ∃ ab ao, a2 = some ⟨ab, ao, none⟩ ∧ wr.cell? ⟨ab, ao + j, none⟩ = some (.int .i64 (lb.getD j 0)) := by
                rcases H2.out wr HG.out with h | ⟨ab, ao, e, h⟩
                · rw [h] at hjl2; cases hjl2
                · exact ⟨ab, ao, e, h j hjl2⟩
              have HTC := show Hid _ from take_contains hjl2 (k : Int)
              obtain ⟨x, hx⟩ : ∃ x, x = lb.getD j 0 := ⟨_, rfl⟩
              rw [← hx] at hc HTC
              obtain ⟨d, hd⟩ : ∃ d, d = (b || (lb.take j).contains (k : Int)) := ⟨_, rfl⟩
              have HD : Hid ((b || (lb.take (j + 1)).contains (k : Int)) = (d || (x == (k : Int)))) := by
                show _ = _
                rw [HTC.out, hd, Bool.or_assoc]
              rw [← hd]
              have hj0 : (0 : Int) ≤ (j : Int) := by omega
              have hj1 : (j : Int) < (n2 : Int) := by omega
              have hjd : decide (j < n2) = true := decide_eq_true hjl
              clear hx hd HTC
              cases d with
              | true =>
                go_wp2_with fail
                go_roundg (n2 - (j + 1))
                case measure => have := HGJ.out; omega
                case rel => exact ⟨j + 1, by omega, rfl, by rw [HD.out]; rfl, by go_num, rfl⟩
              | false =>
                obtain ⟨q, hq⟩ : ∃ q, q = (x == (k : Int)) := ⟨_, rfl⟩
                have HQ : Hid (q = (x == (k : Int))) := hq
                have hqx : (x == (k : Int)) = q := hq.symm
                clear hq
                go_wp2_with fail
                go_roundg (n2 - (j + 1))
                case measure => have := HGJ.out; omega
                case rel => exact ⟨j + 1, by omega, rfl, by rw [HD.out, ← HQ.out]; rfl, by go_num, rfl⟩
            · have hjn : n2 = j := by omega
              subst hjn
              have hjd : decide (n2 < n2) = false := decide_eq_false (by omega)
              have et : lb.take n2 = lb := by rw [HE2.out]; exact List.take_length
              rw [et]
              obtain ⟨d, hd⟩ : ∃ d, d = (b || lb.contains (k : Int)) := ⟨_, rfl⟩
              rw [← hd]
              have HS := show Hid _ from bothTo_succ la lb k
              rw [← HB.out, ← hd] at HS
              clear hd et HGJ
              cases d with
              | false =>
                have HS2 : Hid (bothTo la lb (k + 1) = bothTo la lb k) := by
                  show _ = _
                  rw [HS.out]; simp
                clear HS
                go_wp2_with fail
                go_roundg (65 - (k + 1))
                case measure => have := HGK.out; omega
                case rel => exact ⟨k + 1, a', c', by omega, rfl, by go_num, by rw [HS2.out, ← HOL.out], HG.out, by rw [HS2.out, ← HOL.out]; exact HO.out⟩
              | true =>
                have HS2 : Hid (bothTo la lb (k + 1) = bothTo la lb k ++ [(k : Int)]) := by
                  show _ = _
                  rw [HS.out]; simp
                have HOW : Hid ((wr.alloc (.cells #[.int .i64 (k : Int)] 3)).ownsRow w.heap.size 3 1 (.slice a' ol c') ol ((bothTo la lb k).map (Value.int .i64))) := keep0 HO.out (World.grownBy_alloc _ _ none)
                have HGA : Hid (w.grownBy (wr.alloc (.cells #[.int .i64 (k : Int)] 3)) none) := grown_trans HG.out (World.grownBy_alloc _ _ none)
                have HF6 : Hid (∀ v6 wB, wB.ownsRow w.heap.size 3 1 v6 (ol + 1) ((bothTo la lb k).map (Value.int .i64) ++ [.int .i64 (k : Int)]) → (wr.alloc (.cells #[.int .i64 (k : Int)] 3)).grownBy wB (Value.slice a' ol c').ownBlock → ∃ a c, v6 = .slice a (bothTo la lb (k + 1)).length c ∧ w.grownBy wB none ∧ wB.ownsRow w.heap.size 3 1 (.slice a (bothTo la lb (k + 1)).length c) (bothTo la lb (k + 1)).length ((bothTo la lb (k + 1)).map (Value.int .i64))) := by
                  intro v6 wB ho hg
                  obtain ⟨a, c, rfl⟩ := owns_slice ho
                  have e1 : (bothTo la lb (k + 1)).length = ol + 1 := by rw [HS2.out, List.length_append, ← HOL.out]; rfl
                  refine ⟨a, c, by rw [e1], ?_, ?_⟩
                  · cases hv : (Value.slice a' ol c').ownBlock with
                    | none => rw [hv] at hg; exact grown_trans HGA.out hg
                    | some q => rw [hv] at hg; exact grown_at HGA.out hg (HOW.out.lt q hv).1
                  · rw [e1, HS2.out, List.map_append]
                    exact ho
                have HNW : Hid (∀ j u, [Value.int .i64 (k : Int)][j]? = some u → (wr.alloc (.cells #[.int .i64 (k : Int)] 3)).cell? ((⟨wr.heap.size, 0, none⟩ : Addr).add j) = some u) := news_new wr _ _
                have HBB : Hid (w.heap.size ≤ (wr.alloc (.cells #[.int .i64 (k : Int)] 3)).heap.size) := HGA.out.size
                clear HS
                go_wp2_with (at_builtin; refine wpList_append_src rfl (.tmp 45) (.tmp 47) 24 rfl w.heap.size 3 i0 (.int .i64 0) 1 8 Tryd.underlying24 hi0 hz0 hz1 hz2 rfl (by decide) (.slice a' ol c') ol ((bothTo la lb k).map (Value.int .i64)) rfl HOW.out (some ⟨wr.heap.size, 0, none⟩) 1 1 [.int .i64 (k : Int)] rfl (fun h => by cases h) rfl (fun ad e => by cases e; exact HNW.out) (by simp [Value.oneCell']) (by unfold maxLen; omega) (by omega) HBB.out ?_; intro v6 wB hoB hgB; obtain ⟨a6, c6, rfl, y2, y3⟩ := HF6.out v6 wB hoB hgB; have HY2 := show Hid _ from y2; have HY3 := show Hid _ from y3; clear hoB hgB y2 y3)
                go_roundg (65 - (k + 1))
                case measure => have := HGK.out; omega
                case rel => exact ⟨k + 1, a6, c6, by omega, rfl, by go_num, rfl, HY2.out, HY3.out⟩
    · have hkn : k = 65 := by omega
      subst hkn
      go_wp2_with fail
      go_ret
      have h2 := HO.out
      rw [HOL.out] at h2
      exact ⟨a', c', by rw [← HOL.out]; rfl, h2, HG.out⟩

set_option maxRecDepth 100000 in
theorem ints_same (a1 a2 : Option Addr) (c1 c2 : Nat) (l : List Int) (w : World) (h1 : IntsAt w a1 l) (h2 : IntsAt w a2 l) (hn : l.length ≤ 17592186044416) :
    Calls Tryd.prog 19 #[.slice a1 l.length c1, .slice a2 l.length c2] w fun e y => e = .returned (.bool true) ∧ w.grownBy y none := by
  have H1 : Hid (∀ X, w.grownBy X none → IntsAt X a1 l ∧ IntsAt X a2 l) := fun X hX => ⟨h1.kept hX, h2.kept hX⟩
  obtain ⟨n, he⟩ : ∃ n, n = l.length := ⟨_, rfl⟩
  have HE : Hid (n = l.length) := he
  rw [← he] at hn
  rw [← he]
  have hnn : ((n : Int) != (n : Int)) = false := bne_self_eq_false _
  clear h1 h2 he
  go_enter Tryd.func19, Tryd.ntmps19
  go_wp2_with fail
  go_loopg [5] n (fun gk v5 wr => ∃ (j : Nat), j ≤ n ∧ gk = n - j ∧ v5 = .int .i64 j ∧ w.grownBy wr none)
  case atStart => exact ⟨0, Nat.zero_le _, rfl, rfl, grown_refl _ _⟩
  case round =>
    obtain ⟨j, hj, hgj, rfl, hg⟩ := hrel
    have HGJ : Hid (gk = n - j) := hgj
    have HG : Hid (w.grownBy wr none) := hg
    clear hgj hg
    by_cases hjl : j < n
    · have hjl2 : j < l.length := by rw [← HE.out]; exact hjl
      obtain ⟨ab, ao, rfl, hc1⟩ : ∃ ab ao, a1 = some ⟨ab, ao, none⟩ ∧ wr.cell? ⟨ab, ao + j, none⟩ = some (.int .i64 (l.getD j 0)) := by
        rcases (H1.out wr HG.out).1 with h | ⟨ab, ao, e, h⟩
        · rw [h] at hjl2; cases hjl2
        · exact ⟨ab, ao, e, h j hjl2⟩
      obtain ⟨bb, bo, rfl, hc2⟩ : ∃ ab ao, a2 = some ⟨ab, ao, none⟩ ∧ wr.cell? ⟨ab, ao + j, none⟩ = some (.int .i64 (l.getD j 0)) := by
        rcases (H1.out wr HG.out).2 with h | ⟨ab, ao, e, h⟩
        · rw [h] at hjl2; cases hjl2
        · exact ⟨ab, ao, e, h j hjl2⟩
      obtain ⟨x, hx⟩ : ∃ x, x = l.getD j 0 := ⟨_, rfl⟩
      rw [← hx] at hc1 hc2
      have hxx : (x != x) = false := bne_self_eq_false _
      have hj0 : (0 : Int) ≤ (j : Int) := by omega
      have hj1 : (j : Int) < (n : Int) := by omega
      have hjd : decide (j < n) = true := decide_eq_true hjl
      clear hx
      go_wp2_with fail
      go_quiet (fail)
      go_wp2_with fail
      go_roundg (n - (j + 1))
      case measure => have := HGJ.out; omega
      case rel => exact ⟨j + 1, by omega, rfl, by go_num, by first | exact HG.out | exact grown_trans HG.out (grown_drewN _ _)⟩
    · have hjn : n = j := by omega
      subst hjn
      have hjd : decide (n < n) = false := decide_eq_false (by omega)
      go_wp2_with fail
      go_ret
      exact ⟨rfl, HG.out⟩

end Go.Proofs.YtdhojilmgnodeaaDoor
