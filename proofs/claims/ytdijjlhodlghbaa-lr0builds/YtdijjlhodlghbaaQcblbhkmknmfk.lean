/-
  lr0: the law's awake.
-/
import Derived.Test.YtdijjlhodlghbaaQlcigljjidkik
namespace Go.Proofs.Ytdijjlhodlghbaa.J
open Go.RowKit Go.Maps Go.Shelf

attribute [local go_sem] Oper.semAt_some

theorem k_gg : autoF (GG 3 3 kL kR) 5 256 = some (kKs, kEs) := by
  have h : ∀ k ∈ kKs, IsClo 3 3 kL kR k (CLo 3 3 kL kR k) := fun k hk => by
    have h1 := k_clo k hk
    rw [CLo_eq h1 (by
      simp only [kKs, List.mem_cons, List.not_mem_nil, or_false] at hk
      rcases hk with rfl | rfl | rfl | rfl | rfl <;> decide)]
    exact h1
  exact k_auto h

theorem k_item : ∀ x ∈ [((0 : Int), (0 : Int))], itB 3 kR x = true := by intro x hx; rw [List.mem_singleton.1 hx]; rfl
theorem k_build {w1 X : World} {b1 b2 b6 : Nat} {ra : Nat → Option Addr} {rc : Nat → Nat} (hG1 : GAt w1 (some ⟨b1, 0, none⟩) (some ⟨b2, 0, none⟩) none (some ⟨b6, 0, none⟩) 3 2 0 3 kTs kNs [] 3 kL kR ra rc (fun _ => 0)) (hX : w1.grownBy X none) : Calls Try.prog 12 #[.agg #[.slice (some ⟨b1, 0, none⟩) 3 3, .slice (some ⟨b2, 0, none⟩) 2 2, .slice none 0 0, .int .i64 4, .slice (some ⟨b6, 0, none⟩) 3 3]] X fun e y => ∃ sa sc, e = .returned (.tuple #[.agg #[.slice sa 5 sc, .int .i64 5, .int .i64 5], .int .i64 0]) ∧ X.grownBy y none := by
  refine (buildOk _ _ _ _ _ _ _ _ kTs kNs [] 3 kL kR ra rc (fun _ => 0) 4 X 3 2 0 ⟨rfl, rfl, rfl⟩ (hG1.kept hX) k_closed).mono ?_
  rintro e y (⟨ks, es, sa, sc, kv, ev, hau, rfl, _, hg⟩ | ⟨hau, _⟩)
  · have h := k_gg.symm.trans hau
    simp only [Option.some.injEq, Prod.mk.injEq] at h
    obtain ⟨rfl, rfl⟩ := h
    exact ⟨sa, sc, rfl, hg⟩
  · have h := k_gg.symm.trans hau
    cases h
theorem k_clos {w1 X : World} {b1 b2 b6 : Nat} {ra : Nat → Option Addr} {rc : Nat → Nat} (hG1 : GAt w1 (some ⟨b1, 0, none⟩) (some ⟨b2, 0, none⟩) none (some ⟨b6, 0, none⟩) 3 2 0 3 kTs kNs [] 3 kL kR ra rc (fun _ => 0)) (hX : w1.grownBy X none) (b : Nat) (hI : ItsAt X (some ⟨b, 0, none⟩) [(0, 0)]) : Calls Try.prog 17 #[.agg #[.slice (some ⟨b1, 0, none⟩) 3 3, .slice (some ⟨b2, 0, none⟩) 2 2, .slice none 0 0, .int .i64 4, .slice (some ⟨b6, 0, none⟩) 3 3], .slice (some ⟨b, 0, none⟩) 1 1] X fun e y => ∃ a c, e = .returned (.tuple #[.slice a 3 c, .int .i64 0]) ∧ X.grownBy y none := by
  refine (closureOk _ _ _ _ _ _ _ _ kTs kNs [] 3 kL kR ra rc (fun _ => 0) 4 X 3 2 0 ⟨rfl, rfl, rfl⟩ (hG1.kept hX) (some ⟨b, 0, none⟩) 1 [(0, 0)] hI (by decide) (fun h => by cases h) k_closed k_item).mono ?_
  rintro e y ⟨l, hl, _, a, c, rfl, _, hg⟩
  have h := hl.unique (k_clo [(0, 0)] (by simp [kKs]))
  subst h
  exact ⟨a, c, rfl, hg⟩
theorem k_goto {w1 X : World} {b1 b2 b6 : Nat} {ra : Nat → Option Addr} {rc : Nat → Nat} (hG1 : GAt w1 (some ⟨b1, 0, none⟩) (some ⟨b2, 0, none⟩) none (some ⟨b6, 0, none⟩) 3 2 0 3 kTs kNs [] 3 kL kR ra rc (fun _ => 0)) (hX : w1.grownBy X none) (b : Nat) (hI : ItsAt X (some ⟨b, 0, none⟩) [(0, 0)]) : Calls Try.prog 19 #[.agg #[.slice (some ⟨b1, 0, none⟩) 3 3, .slice (some ⟨b2, 0, none⟩) 2 2, .slice none 0 0, .int .i64 4, .slice (some ⟨b6, 0, none⟩) 3 3], .int .i64 4, .slice (some ⟨b, 0, none⟩) 1 1] X fun e y => ∃ g c, e = .returned (.tuple #[.slice (some ⟨g, 0, none⟩) 2 c, .int .i64 0]) ∧ y.cell? ⟨g, 2, none⟩ = some (.int .i64 1) ∧ y.cell? ⟨g, 3, none⟩ = some (.int .i64 1) ∧ X.grownBy y none := by
  refine (gotoOk _ _ _ _ _ _ _ _ kTs kNs [] 3 kL kR ra rc (fun _ => 0) 4 X 3 2 0 ⟨rfl, rfl, rfl⟩ (hG1.kept hX) (some ⟨b, 0, none⟩) 1 [(0, 0)] hI (by decide) (fun h => by cases h) 4 (by decide) k_closed k_item).mono ?_
  rintro e y ⟨l, hl, _, a, c, rfl, ho, hg⟩
  have h := hl.unique (k_clo [(0, 0)] (by simp [kKs]))
  subst h
  have hk : kerT kR (kCl [(0, 0)]) ((4 : Nat) : Int) = [(0, 1), (1, 1)] := by decide
  rw [hk] at ho ⊢
  obtain ⟨g, c2, he, hcell⟩ := owns_at ho (by decide)
  simp only [Value.slice.injEq] at he
  obtain ⟨rfl, _, rfl⟩ := he
  exact ⟨g, c, rfl, hcell 2 _ rfl, hcell 3 _ rfl, hg⟩
theorem k_its (X : World) : ItsAt (X.alloc (.cells #[.int .i64 0, .int .i64 0] 49)) (some ⟨X.heap.size, 0, none⟩) [(0, 0)] := .inr ⟨X.heap.size, 0, rfl, fun i hi => by
  have h2 : i = 0 := by simp at hi; omega
  subst h2
  exact ⟨by rw [cell_of_row _ _ _ _ _ _ (heap_alloc_last X _)]; rfl, by rw [cell_of_row _ _ _ _ _ _ (heap_alloc_last X _)]; rfl⟩⟩

set_option maxRecDepth 100000 in
set_option maxHeartbeats 2000000 in
theorem awake_any (w : World) : Calls Try.prog 9 #[] w fun e w' => e = .returned (.bool true) ∧ w.grownBy w' none := by
  have hE : ∀ X : World, (binOp .eql 49 (.agg #[.int .i64 1, .int .i64 1]) (.agg #[.int .i64 1, .int .i64 1])).run Try.prog X = .ok (.bool true) X := fun X => eq_item 1 1 1 1 X
  go_enter Try.func9, Try.ntmps9
  go_wp2_with fail
  refine Calls.mono (small_any w) ?_
  rintro e w1 ⟨b1, b2, b6, ra, rc, rfl, hG1, hg1⟩
  have HG1 : Hid (GAt w1 (some ⟨b1, 0, none⟩) (some ⟨b2, 0, none⟩) none (some ⟨b6, 0, none⟩) 3 2 0 3 kTs kNs [] 3 kL kR ra rc (fun _ => 0)) := hG1
  obtain ⟨gb, hgb⟩ : ∃ gb, gb = w1.heap.size := ⟨_, rfl⟩
  obtain ⟨X1, hX1⟩ : ∃ X1, X1 = w1.alloc (.cells #[.slice (some ⟨b1, 0, none⟩) 3 3, .slice (some ⟨b2, 0, none⟩) 2 2, .slice none 0 0, .int .i64 4, .slice (some ⟨b6, 0, none⟩) 3 3] 27) := ⟨_, rfl⟩
  have HP1 : Hid (PhAt w1 X1 gb #[.slice (some ⟨b1, 0, none⟩) 3 3, .slice (some ⟨b2, 0, none⟩) 2 2, .slice none 0 0, .int .i64 4, .slice (some ⟨b6, 0, none⟩) 3 3]) := ⟨by rw [hX1]; exact World.grownBy_alloc _ _ none, by rw [hX1, hgb]; exact heap_alloc_last w1 _⟩
  have HGW : Hid (w.grownBy w1 none) := hg1
  have HXE := show Hid _ from hX1
  have HGE := show Hid _ from hgb
  clear hG1 hg1 hX1 hgb
  go_wp2_with fail
  rw [← HXE.out, ← HGE.out]
  refine Calls.mono (k_build HG1.out HP1.out.grown) ?_
  rintro e w2 ⟨sa, sc, rfl, hg2⟩
  have HP2 : Hid (PhAt w1 (w2.alloc (.cells #[.slice sa 5 sc, .int .i64 5, .int .i64 5] 32)) gb #[.slice (some ⟨b1, 0, none⟩) 3 3, .slice (some ⟨b2, 0, none⟩) 2 2, .slice none 0 0, .int .i64 4, .slice (some ⟨b6, 0, none⟩) 3 3]) := HP1.out.kept (grown_trans hg2 (World.grownBy_alloc _ _ none))
  clear hg2 HP1 HXE HGE
  obtain ⟨k0, k1, k2, k3, k4⟩ := HP2.out.cells
  obtain ⟨ab, hab⟩ : ∃ b, b = w2.heap.size := ⟨_, rfl⟩
  have HAB : Hid ((w2.alloc (.cells #[.slice sa 5 sc, .int .i64 5, .int .i64 5] 32)).heap[ab]? = some (.cells #[.slice sa 5 sc, .int .i64 5, .int .i64 5] 32 (0, 0))) := by rw [hab]; exact heap_alloc_last w2 _
  have HAE := show Hid _ from hab
  clear hab
  have HCL := show Hid _ from k_clos HG1.out (grown_trans HP2.out.grown (World.grownBy_alloc _ (.cells #[.int .i64 0, .int .i64 0] 49) none)) _ (k_its (w2.alloc (.cells #[.slice sa 5 sc, .int .i64 5, .int .i64 5] 32)))
  rw [World.size_alloc] at HCL
  go_wp2_with fail
  refine Calls.mono HCL.out ?_
  rintro e w3 ⟨a3, c3, rfl, hg3⟩
  have HP3 : Hid (PhAt w1 w3 gb #[.slice (some ⟨b1, 0, none⟩) 3 3, .slice (some ⟨b2, 0, none⟩) 2 2, .slice none 0 0, .int .i64 4, .slice (some ⟨b6, 0, none⟩) 3 3]) := HP2.out.kept (grown_trans (World.grownBy_alloc _ _ none) hg3)
  have HA3 : Hid (w3.heap[ab]? = some (.cells #[.slice sa 5 sc, .int .i64 5, .int .i64 5] 32 (0, 0))) := box_kept HAB.out (grown_trans (World.grownBy_alloc _ _ none) hg3)
  rw [← HAE.out]
  clear hg3 HP2 HAB HCL HAE k0 k1 k2 k3 k4
  obtain ⟨k0, k1, k2, k3, k4⟩ := HP3.out.cells
  have HGO := show Hid _ from k_goto HG1.out (grown_trans HP3.out.grown (World.grownBy_alloc _ (.cells #[.int .i64 0, .int .i64 0] 49) none)) _ (k_its w3)
  go_wp2_with fail
  refine Calls.mono HGO.out ?_
  rintro e w4 ⟨g4, c4, rfl, r0, r1, hg4⟩
  have HA4 : Hid (w4.heap[ab]? = some (.cells #[.slice sa 5 sc, .int .i64 5, .int .i64 5] 32 (0, 0))) := box_kept HA3.out (grown_trans (World.grownBy_alloc _ _ none) hg4)
  have HG4 : Hid (w.grownBy w4 none) := grown_trans HGW.out (grown_trans HP3.out.grown (grown_trans (World.grownBy_alloc _ _ none) hg4))
  have q0 := cell_of_row w4 ab 0 _ _ _ HA4.out
  have q1 := cell_of_row w4 ab 1 _ _ _ HA4.out
  have q2 := cell_of_row w4 ab 2 _ _ _ HA4.out
  simp only [List.getElem?_toArray, List.getElem?_cons_zero, List.getElem?_cons_succ] at q0 q1 q2
  clear hg4 HA3 HP3 HGO k0 k1 k2 k3 k4 HG1 HGW
  go_wp2_with fail
  go_ret
  exact ⟨rfl, HG4.out⟩

end Go.Proofs.Ytdijjlhodlghbaa.J
