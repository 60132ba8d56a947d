/-
  The law's own 'some', walked.
-/
import Derived.Test.YtkmocjdjdlpphaaDoorSome
import Derived.BigQuiet
namespace Go.Proofs.YtkmocjdjdlpphaaDoor
open Go.RowKit Go.Shelf

attribute [local go_sem] Oper.semAt_some

theorem cell_one_new' (w : World) (o : Obj) (v : Value) (t : TypeId) : ∀ j u, [v][j]? = some u → ((w.alloc o).alloc (.cells #[v] t)).cell? ((⟨w.heap.size + 1, 0, none⟩ : Addr).add j) = some u := by
  have := cell_one_new (w.alloc o) v t
  simpa using this

set_option maxHeartbeats 4000000 in
theorem some_core (w W : World) (Bw N : Nat) (ax ar : Option Addr) (cx cr : Nat) (F : Fam) (a : Option Addr) (cap len : Nat) (X : Nat → Int) (K : Nat → Nat) (p : Nat → Option Addr)
    (hI : PInv w W Bw N N (.slice ax N cx) (.slice ar N cr) F) (hlen : len ≤ 17592186043904)
    (hX : ∀ i, i < len → ∃ b off, a = some ⟨b, off, none⟩ ∧ W.cell? ⟨b, off + i, none⟩ = some (.int .i64 (X i)))
    (hK : ∀ i wr, i < len → Calls Tryd.prog 17 #[.int .i64 (X i), .int .i64 ((N : Int) + 1)] wr fun e w' => e = .returned (.int .i64 (K i : Nat)) ∧ ∃ k, w' = wr.drewN k) (hKl : ∀ i, K i ≤ N)
    (hp0 : ∀ i, K i = N → p i = none) (hp1 : ∀ i, K i < N → p i = some ⟨F.b (K i), 0, none⟩) :
    Calls Tryd.prog 30 #[.pointer (some ⟨Bw, 0, none⟩), .slice a len cap] W fun e w' => ∃ vX vR r, e = .returned (.tuple #[vX, vR]) ∧ SomeAt W w' N F.br K p len vX vR r := by
  obtain ⟨i0, hi, hz0, hz1, hz2⟩ := info_parts info34
  obtain ⟨j0, hj, hy0, hy1, hy2⟩ := info_parts info35
  have hcx := hI.xcell
  have hcr := hI.rcell
  have hBlt := hI.blt
  have hN := hI.le.1
  have HI : Hid (PInv w W Bw N N (.slice ax N cx) (.slice ar N cr) F) := hI
  have HX : Hid (∀ i, i < len → ∃ b off, a = some ⟨b, off, none⟩ ∧ W.cell? ⟨b, off + i, none⟩ = some (.int .i64 (X i))) := hX
  have HK : Hid (∀ i wr, i < len → Calls Tryd.prog 17 #[.int .i64 (X i), .int .i64 ((N : Int) + 1)] wr fun e w' => e = .returned (.int .i64 (K i : Nat)) ∧ ∃ k, w' = wr.drewN k) := hK
  have HKL : Hid (∀ i, K i ≤ N) := hKl
  have HP0 : Hid (∀ i, K i = N → p i = none) := hp0
  have HP1 : Hid (∀ i, K i < N → p i = some ⟨F.b (K i), 0, none⟩) := hp1
  clear hI hX hK hKl hp0 hp1
  go_enter Tryd.func30, Tryd.ntmps30
  go_wp2_with fail
  go_loopw [6, 7, 8] (fun x r i wr => ∃ k : Nat, k ≤ len ∧ i = .int .i64 k ∧ ∃ f, SomeAt W wr N F.br K p k x r f) (fun _ _ i _ => len - (intOf i).toNat)
  case atStart => exact ⟨0, Nat.zero_le _, rfl, fun _ => 0, Below.refl _ _, World.ownsRow_nil _ _ _ _, World.ownsRow_nil _ _ _ _, fun j hj => absurd hj (Nat.not_lt_zero j)⟩
  case round =>
    obtain ⟨k, hk, rfl, f, hS⟩ := hrel
    by_cases hlt : k < len
    · obtain ⟨b, off, rfl, hcell⟩ := HX.out k hlt
      have hbl := World.block_lt_of_cell? W _ hcell
      have hcell2 : wr.cell? ⟨b, off + k, none⟩ = some (.int .i64 (X k)) := (by rw [hS.bel.cell (by exact hbl)]; exact hcell)
      have hcx2 : wr.cell? ⟨Bw, 0, none⟩ = some (.slice ax N cx) := (by rw [hS.bel.cell (by exact hBlt)]; exact hcx)
      have hcr2 : wr.cell? ⟨Bw, 1, none⟩ = some (.slice ar N cr) := (by rw [hS.bel.cell (by exact hBlt)]; exact hcr)
      have hkl := HKL.out k
      have hwr := hS.bel.size
      have HS : Hid (SomeAt W wr N F.br K p k _ _ f) := hS
      have hownX := hS.xs
      clear hS hcell
      go_wp2_with fail
      go_quiet (first | (go_at_call 17; with_reducible exact Calls.quiet_of (HK.out k _ hlt)))
      have hS1 := HS.out.drewN nq
      have hc1x : (wr.drewN nq).cell? ⟨Bw, 0, none⟩ = some (.slice ax N cx) := hcx2
      have hc1r : (wr.drewN nq).cell? ⟨Bw, 1, none⟩ = some (.slice ar N cr) := hcr2
      clear hcell2 hcx2 hcr2 hownX HS hwr
      generalize wr.drewN nq = w1 at *
      have hwr := hS1.bel.size
      have hownX := hS1.xs
      have HS : Hid (SomeAt W w1 N F.br K p k _ _ f) := hS1
      clear hS1
      by_cases hKN : K k = N
      · have hpk := HP0.out k hKN
        have hbk : ((K k : Int) == (N : Int)) = true := by rw [beq_iff_eq]; omega
        go_wp2_with (first
          | (at_builtin; refine wpList_append_own _ rfl _ _ 25 rfl W.heap.size 34 i0 (.pointer none) 1 8 Tryd.underlying25 hi hz0 hz1 hz2 rfl (by decide) _ _ _ rfl (hownX.alloc _) ⟨w1.heap.size, 0, none⟩ 1 1 [.pointer none] rfl rfl (cell_one_new _ _ _) (by simp [Value.oneCell']) (by unfold maxLen; omega) (by omega) (by simp; omega) ?_; intro vX' w2 hown2 hgrow2 _; rw [← hpk] at hown2; obtain ⟨hb2, hx2, hr2, he2⟩ := HS.out.pushX hown2 hgrow2; have hw2s := hb2.size; clear hownX)
          | (at_builtin; refine wpList_append_own _ rfl _ _ 26 rfl W.heap.size 35 j0 (.pointer none) 1 8 Tryd.underlying26 hj hy0 hy1 hy2 rfl (by decide) _ _ _ rfl ((hr2.alloc (.cells #[.slice none 0 0] 70)).alloc _) ⟨w2.heap.size + 1, 0, none⟩ 1 1 [.pointer (some ⟨w2.heap.size, 0, none⟩)] rfl rfl (cell_one_new' _ _ _ _) (by simp [Value.oneCell']) (by unfold maxLen; omega) (by omega) (by simp; omega) ?_; intro vR' w4 hown4 hgrow4 _))
        refine ⟨⟨k + 1, by omega, by go_num, upd f k w2.heap.size, ?_⟩, by simp [intOf]; omega⟩
        refine SomeAt.pushR (hb2.alloc hb2.size _) (hx2.alloc _) (hr2.alloc _) (fun j hj => ?_) (.inr ⟨hKN, hb2.size, heap_alloc_last w2 _⟩) hown4 hgrow4
        rcases he2 j hj with h' | ⟨h1, h2, h3⟩
        · exact .inl h'
        · exact .inr ⟨h1, h2, h3.alloc _⟩
      · have hKlt : K k < N := by omega
        have hpk := HP1.out k hKlt
        have hbk : ((K k : Int) == (N : Int)) = false := by rw [beq_eq_false_iff_ne]; omega
        obtain ⟨ax', cx', ex, hxs⟩ := HI.out.xform
        simp only [Value.slice.injEq, true_and] at ex
        obtain ⟨rfl, rfl⟩ := ex
        obtain ⟨ar', cr', er, hrs⟩ := HI.out.rform
        simp only [Value.slice.injEq, true_and] at er
        obtain ⟨rfl, rfl⟩ := er
        obtain ⟨g, rfl, hcg⟩ := hxs (K k) hKlt
        obtain ⟨g', rfl, hcg'⟩ := hrs (K k) hKlt
        have hglt := World.block_lt_of_cell? W _ hcg
        have hglt' := World.block_lt_of_cell? W _ hcg'
        have hcg1 : w1.cell? ⟨g, K k, none⟩ = some (.pointer (some ⟨F.b (K k), 0, none⟩)) := (by rw [HS.out.bel.cell (by exact hglt)]; exact hcg)
        have HCR : Hid (W.cell? ⟨Bw, 1, none⟩ = some (.slice (some ⟨g', 0, none⟩) N cr)) := hcr
        have HCG : Hid (W.cell? ⟨g', K k, none⟩ = some (.pointer (some ⟨F.br (K k), 0, none⟩))) := hcg'
        clear hxs hrs hcg hcg' hcr hc1r
        go_wp2_with (first
          | (at_builtin; refine wpList_append_own _ rfl _ _ 25 rfl W.heap.size 34 i0 (.pointer none) 1 8 Tryd.underlying25 hi hz0 hz1 hz2 rfl (by decide) _ _ _ rfl (hownX.alloc _) ⟨w1.heap.size, 0, none⟩ 1 1 [.pointer (some ⟨F.b (K k), 0, none⟩)] rfl rfl (cell_one_new _ _ _) (by simp [Value.oneCell']) (by unfold maxLen; omega) (by omega) (by simp; omega) ?_; intro vX' w2 hown2 hgrow2 _; rw [← hpk] at hown2; obtain ⟨hb2, hx2, hr2, he2⟩ := HS.out.pushX hown2 hgrow2; have hw2s := hb2.size; clear hownX; have hcr3 : w2.cell? ⟨Bw, 1, none⟩ = some (.slice (some ⟨g', 0, none⟩) N cr) := (by rw [hb2.cell (by exact hBlt)]; exact HCR.out); have hcg3 : w2.cell? ⟨g', K k, none⟩ = some (.pointer (some ⟨F.br (K k), 0, none⟩)) := (by rw [hb2.cell (by exact hglt')]; exact HCG.out))
          | (at_builtin; refine wpList_append_own _ rfl _ _ 26 rfl W.heap.size 35 j0 (.pointer none) 1 8 Tryd.underlying26 hj hy0 hy1 hy2 rfl (by decide) _ _ _ rfl (hr2.alloc _) ⟨w2.heap.size, 0, none⟩ 1 1 [.pointer (some ⟨F.br (K k), 0, none⟩)] rfl rfl (cell_one_new _ _ _) (by simp [Value.oneCell']) (by unfold maxLen; omega) (by omega) (by simp; omega) ?_; intro vR' w4 hown4 hgrow4 _))
        refine ⟨⟨k + 1, by omega, by go_num, upd f k (F.br (K k)), ?_⟩, by simp [intOf]; omega⟩
        exact SomeAt.pushR hb2 hx2 hr2 he2 (.inl ⟨hKlt, rfl⟩) hown4 hgrow4
    · have hkk : k = len := by omega
      subst hkk
      go_wp2_with fail
      go_ret2
      exact ⟨_, _, f, rfl, hS⟩

end Go.Proofs.YtkmocjdjdlpphaaDoor
