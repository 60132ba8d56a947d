/-
  pack: rows of edges among the arguments, opened, with their sizes.
-/
import Derived.Test.YtgmljpkenipgjaaQbhcjapkbmkpo
import Derived.Test.YtgmljpkenipgjaaQhiiiojkojjel
import Derived.Test.YtgmljpkenipgjaaRows
namespace Go.Proofs.Ytgmljpkenipgjaa.J
open Go.ChangeShapes Go.WideShapes Go.ChangeAt Go.RowKit Go.Deep

theorem cellsEdge : Try.prog.cellsOf 60 = 2 := by kernel_rfl
theorem cellsEdges : Try.prog.cellsOf 58 = 1 := by kernel_rfl
theorem bulkP_one {H : Type} (d : DataW H) : 1 ≤ Rows.uptoBulk d := by
  cases d with
  | lit l => cases l <;> simp [Rows.uptoBulk]
  | nil => simp [Rows.uptoBulk]
  | ptr d => simp [Rows.uptoBulk]
  | slice elems spare => simp [Rows.uptoBulk]
  | agg parts => simp [Rows.uptoBulk]
  | iface t d => simp [Rows.uptoBulk]
  | map entries => simp [Rows.uptoBulk]
  | held h => simp [Rows.uptoBulk]
theorem bulkP_len {H : Type} : ∀ (l : List (DataW H)), l.length ≤ Rows.uptoBulkAll l
  | [] => by simp
  | x :: r => by have := bulkP_one x; have := bulkP_len r; simp only [Rows.uptoBulkAll, List.length_cons]; omega
theorem bulkP_part {H : Type} {d : DataW H} : ∀ {l : List (DataW H)}, d ∈ l → Rows.uptoBulk d ≤ Rows.uptoBulkAll l
  | x :: r, h => by
    simp only [Rows.uptoBulkAll]
    rcases List.mem_cons.1 h with e | e
    · subst e; omega
    · have := bulkP_part e; omega
theorem bulkP_slice {H : Type} (elems spare : List (DataW H)) : elems.length + 1 ≤ Rows.uptoBulk (.slice elems spare) := by
  have := bulkP_len elems
  simp only [Rows.uptoBulk]
  omega
theorem bulkP_elem {H : Type} {d : DataW H} {elems spare : List (DataW H)} (h : d ∈ elems) : Rows.uptoBulk d + 1 ≤ Rows.uptoBulk (.slice elems spare) := by
  have := bulkP_part h
  simp only [Rows.uptoBulk]
  omega

section
variable {H : Type} {enc : TypeId × Value → H} {W : World} {fuel : Nat} {cs : List Value} {x : DataW H × List MemPlace}
set_option maxRecDepth 100000 in
theorem open_edges_in (h : DataW.trod enc Try.prog W 0 (fun _ => true) true fuel 58 cs = some x) :
    ∃ (a : Option Addr) (l : List It) (c : Nat), cs = [.slice a l.length c] ∧ ItsAt W a l ∧ (a = none → l.length = 0 ∧ c = 0) ∧ l.length + 1 ≤ Rows.uptoBulk x.1 := by
  rcases open_slice Try.underlying58 h with ⟨hcs, _⟩ | ⟨ad, len, cap, m, n, D, Pl, hcs, _, hl, hm, hmm, hx, heach⟩
  · exact ⟨none, [], 0, hcs, .inl rfl, fun _ => ⟨rfl, rfl⟩, bulkP_one _⟩
  · simp only [if_true] at hmm
    subst hx
    rw [cellsEdge] at heach
    have each : ∀ i, i < len → ∃ t : It, ∃ b off, ad = ⟨b, off, none⟩ ∧ W.cell? ⟨b, off + i * 2, none⟩ = some (.int .i64 t.1) ∧ W.cell? ⟨b, off + i * 2 + 1, none⟩ = some (.int .i64 t.2) := by
      intro i hi
      obtain ⟨cs', h1, h2⟩ := heach i (by omega)
      obtain ⟨_, hcl, hcell⟩ := World.cells?_some h1
      obtain ⟨xs, k, hk, hxy, _, hxl, hfs⟩ := DataW.trod_struct Try.underlying60 h2
      match xs, hxl, cs', hcl with
      | [y0, y1], _, [v0, v1], _ =>
        have g0 := hfs 0 _ rfl
        have g1 := hfs 1 _ rfl
        simp [cellsIntP] at g0 g1
        obtain ⟨s0, e0, _, w0⟩ := DataW.trod_int Try.underlying3 g0
        obtain ⟨z1, e1, _, w1⟩ := DataW.trod_int Try.underlying3 g1
        simp only [List.cons.injEq, and_true] at e0 e1
        subst e0 e1
        have c0 := hcell 0 (by omega)
        have c1 := hcell 1 (by omega)
        rw [Deep.add_add] at c0 c1
        obtain ⟨b, off, spot⟩ := ad
        have hs : spot = none := by
          obtain ⟨cs0, h10, _⟩ := heach 0 (by omega)
          obtain ⟨_, hcl0, hcell0⟩ := World.cells?_some h10
          have q0 := hcell0 0 (by omega)
          rw [List.getElem?_eq_getElem (by omega)] at q0
          simpa [Addr.add] using World.cell?_spot q0
        subst hs
        rw [add_plain] at c0 c1
        exact ⟨(s0, z1), b, off, rfl, by simpa using c0, by simpa [Nat.add_assoc] using c1⟩
    obtain ⟨S, hS⟩ := choose_lt (α := It) each
    have hg : ∀ i, i < len → ((List.range len).map S).getD i (0, 0) = S i := fun i hi => by simp [List.getD, hi]
    refine ⟨some ad, (List.range len).map S, cap, by simpa using hcs, ?_, fun h => (by cases h), ?_⟩
    · by_cases h0 : len = 0
      · subst h0; exact .inl (by simp)
      · obtain ⟨b, off, rfl, _⟩ := hS 0 (by omega)
        refine .inr ⟨b, off, rfl, fun i hi => ?_⟩
        have hi' : i < len := by simpa using hi
        obtain ⟨b', off', e, r1, r2⟩ := hS i hi'
        simp only [Addr.mk.injEq, and_true] at e
        obtain ⟨rfl, rfl⟩ := e
        rw [hg i hi']
        exact ⟨r1, r2⟩
    · have h5 := bulkP_slice ((List.range len).map D) ((List.range (m - len)).map fun j => D (len + j))
      simp only [List.length_map, List.length_range] at h5 ⊢
      exact h5

set_option maxRecDepth 100000 in
/-- Rows of edges among the arguments. -/
theorem open_rowsE {a : Option Addr} {len cap : Nat} {d : DataW H} {p : List MemPlace} (h : DataW.Trod enc Try.prog W 0 (fun _ => true) true 22 (.slice a len cap) d p) :
    ∃ (R : Nat → List It) (ua : Nat → Option Addr) (uc : Nat → Nat), RsAt W a len R ua uc ∧ (∀ i, i < len → ua i = none → (R i).length = 0 ∧ uc i = 0) ∧ len ≤ Rows.uptoBulk d ∧ ∀ i, i < len → (R i).length ≤ Rows.uptoBulk d := by
  obtain ⟨fuel, hf⟩ := h
  have hf' : DataW.trod enc Try.prog W 0 (fun _ => true) true fuel 22 [.slice a len cap] = some (d, p) := by simpa [Value.cells] using hf
  rcases open_slice Try.underlying22 hf' with ⟨hcs, _⟩ | ⟨ad, l, c, m, n, D, Pl, hcs, _, hl, hm, hmm, hx, heach⟩
  · simp at hcs
    obtain ⟨rfl, rfl, rfl⟩ := hcs
    exact ⟨fun _ => [], fun _ => none, fun _ => 0, ⟨.inl rfl, fun i hi => absurd hi (Nat.not_lt_zero _)⟩, fun i hi => absurd hi (Nat.not_lt_zero _), Nat.zero_le _, fun i hi => absurd hi (Nat.not_lt_zero _)⟩
  · simp only [if_true] at hmm
    simp at hcs
    obtain ⟨rfl, rfl, rfl⟩ := hcs
    rw [cellsEdges] at heach
    have each : ∀ i, i < len → ∃ t : List It × Option Addr × Nat, ∃ b off, ad = ⟨b, off, none⟩ ∧ W.cell? ⟨b, off + i, none⟩ = some (.slice t.2.1 t.1.length t.2.2) ∧ ItsAt W t.2.1 t.1 ∧ (t.2.1 = none → t.1.length = 0 ∧ t.2.2 = 0) ∧ t.1.length + 1 ≤ Rows.uptoBulk (D i) := by
      intro i hi
      obtain ⟨cs', h1, h2⟩ := heach i (by omega)
      obtain ⟨_, hcl, hcell⟩ := World.cells?_some h1
      have c0 := hcell 0 (by omega)
      rw [Deep.add_add] at c0
      obtain ⟨b, off, spot⟩ := ad
      have hs : spot = none := by
        obtain ⟨cs0, h10, _⟩ := heach 0 (by omega)
        obtain ⟨_, hcl0, hcell0⟩ := World.cells?_some h10
        have q0 := hcell0 0 (by omega)
        rw [List.getElem?_eq_getElem (by omega)] at q0
        simpa [Addr.add] using World.cell?_spot q0
      subst hs
      rw [add_plain] at c0
      match cs', hcl with
      | [v0], _ =>
        obtain ⟨a2, l2, c2, e2, hI, hn2, hb2⟩ := open_edges_in h2
        simp only [List.cons.injEq, and_true] at e2
        subst e2
        exact ⟨(l2, a2, c2), b, off, rfl, by simpa using c0, hI, hn2, hb2⟩
    obtain ⟨S, hS⟩ := choose_lt (α := List It × Option Addr × Nat) each
    simp only [Prod.mk.injEq] at hx
    refine ⟨fun i => (S i).1, fun i => (S i).2.1, fun i => (S i).2.2, ⟨?_, fun i hi => ?_⟩, fun i hi => ?_, ?_, fun i hi => ?_⟩
    · by_cases h0 : len = 0
      · exact .inl h0
      · obtain ⟨b, off, rfl, _⟩ := hS 0 (by omega)
        refine .inr ⟨b, off, rfl, fun i hi => ?_⟩
        obtain ⟨b', off', e, r1, _⟩ := hS i hi
        simp only [Addr.mk.injEq, and_true] at e
        obtain ⟨rfl, rfl⟩ := e
        exact r1
    · obtain ⟨_, _, _, _, r2, _⟩ := hS i hi
      exact r2
    · obtain ⟨_, _, _, _, _, r3, _⟩ := hS i hi
      exact r3
    · rw [hx.1]
      have h5 := bulkP_slice ((List.range len).map D) ((List.range (m - len)).map fun j => D (len + j))
      simp only [List.length_map, List.length_range] at h5
      omega
    · obtain ⟨_, _, _, _, _, _, r4⟩ := hS i hi
      rw [hx.1]
      have h5 : Rows.uptoBulk (D i) + 1 ≤ _ := bulkP_elem (spare := (List.range (m - len)).map fun j => D (len + j)) (List.mem_map.2 ⟨i, List.mem_range.2 hi, rfl⟩)
      show (S i).1.length ≤ _
      omega
end

end Go.Proofs.Ytgmljpkenipgjaa.J
