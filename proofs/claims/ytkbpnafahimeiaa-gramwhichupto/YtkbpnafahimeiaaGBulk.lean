/-
  What the bound says of a grammar that came in: how long its lists are.
-/
import Derived.Test.YtkbpnafahimeiaaRows
import Derived.Test.YtkbpnafahimeiaaGOpen
namespace Go.Proofs.Ytkbpnafahimeiaa
open Go.ChangeShapes Go.WideShapes Go.ChangeAt Go.RowKit Go.Deep

theorem bulk_one {H : Type} (d : DataW H) : 1 ≤ Rows.uptoBulk d := by
  cases d with
  | lit l => cases l <;> simp [Rows.uptoBulk]
  | nil => simp [Rows.uptoBulk]
  | ptr d => simp [Rows.uptoBulk]
  | slice elems spare => simp [Rows.uptoBulk]
  | agg parts => simp [Rows.uptoBulk]
  | iface t d => simp [Rows.uptoBulk]
  | map entries => simp [Rows.uptoBulk]
  | held h => simp [Rows.uptoBulk]
theorem bulk_part {H : Type} {d : DataW H} : ∀ {l : List (DataW H)}, d ∈ l → Rows.uptoBulk d ≤ Rows.uptoBulkAll l
  | x :: r, h => by
    simp only [Rows.uptoBulkAll]
    rcases List.mem_cons.1 h with e | e
    · subst e; omega
    · have := bulk_part e; omega
theorem bulk_len {H : Type} : ∀ (l : List (DataW H)), l.length ≤ Rows.uptoBulkAll l
  | [] => by simp
  | x :: r => by have := bulk_one x; have := bulk_len r; simp only [Rows.uptoBulkAll, List.length_cons]; omega
theorem bulk_slice {H : Type} (elems spare : List (DataW H)) : elems.length + 1 ≤ Rows.uptoBulk (.slice elems spare) := by
  have := bulk_len elems
  simp only [Rows.uptoBulk]
  omega
theorem bulk_elem {H : Type} {d : DataW H} {elems spare : List (DataW H)} (h : d ∈ elems) : Rows.uptoBulk d ≤ Rows.uptoBulk (.slice elems spare) := by
  have := bulk_part h
  simp only [Rows.uptoBulk]
  omega
theorem bulk_field {H : Type} {d : DataW H} {parts : List (DataW H)} (h : d ∈ parts) : Rows.uptoBulk d ≤ Rows.uptoBulk (.agg parts) := by
  have := bulk_part h
  simp only [Rows.uptoBulk]
  omega

section
variable {H : Type} {enc : TypeId × Value → H} {W : World} {fuel : Nat} {x : DataW H × List MemPlace} {a : Option Addr} {len cap : Nat}

theorem ints_bulk (h : DataW.trod enc Try.prog W 0 (fun _ => true) true fuel 30 [.slice a len cap] = some x) : len ≤ Rows.uptoBulk x.1 := by
  rcases open_ints Try.underlying30 Try.underlying3 cellsInt h with ⟨hcs, _⟩ | ⟨y, l, c, zs, hcs, _, hl, hm, hz, hx, _⟩
  · simp at hcs; omega
  · simp at hcs
    obtain ⟨_, rfl, rfl⟩ := hcs
    have hz' : zs.length = cap := by simpa using hz
    rw [hx]
    have := bulk_slice (lits (H := H) .i64 (zs.take len)) (lits (H := H) .i64 (zs.drop len))
    simp only [lits, List.length_map, List.length_take] at this
    simp only [lits]
    omega
theorem strs_bulk (h : DataW.trod enc Try.prog W 0 (fun _ => true) true fuel 29 [.slice a len cap] = some x) : len ≤ Rows.uptoBulk x.1 := by
  rcases open_strings Try.underlying29 Try.underlying9 cellsStr h with ⟨hcs, _⟩ | ⟨y, l, c, zs, hcs, _, hl, hm, hz, hx, _⟩
  · simp at hcs; omega
  · simp at hcs
    obtain ⟨_, rfl, rfl⟩ := hcs
    have hz' : zs.length = cap := by simpa using hz
    rw [hx]
    have := bulk_slice (strs (H := H) (zs.take len)) (strs (H := H) (zs.drop len))
    simp only [strs, List.length_map, List.length_take] at this
    simp only [strs]
    omega
theorem terms_bulk (h : DataW.trod enc Try.prog W 0 (fun _ => true) true fuel 28 [.slice a len cap] = some x) : len ≤ Rows.uptoBulk x.1 := by
  rcases open_slice Try.underlying28 h with ⟨hcs, _⟩ | ⟨ad, len', cap', m, n, D, Pl, hcs, _, hl, hm, hmm, hx, heach⟩
  · simp at hcs; omega
  · simp at hcs
    obtain ⟨_, rfl, rfl⟩ := hcs
    rw [hx]
    have := bulk_slice ((List.range len).map D) ((List.range (m - len)).map fun j => D (len + j))
    simp only [List.length_map, List.length_range] at this
    show len ≤ Rows.uptoBulk (.slice ((List.range len).map D) ((List.range (m - len)).map fun j => D (len + j)))
    omega
set_option maxRecDepth 100000 in
theorem prods_bulk {L : Nat → Int} {R : Nat → List Int} {ra : Nat → Option Addr} {rc : Nat → Nat} {V : Nat → Int} (h : DataW.trod enc Try.prog W 0 (fun _ => true) true fuel 40 [.slice a len cap] = some x) (hP : ProdsAt W a len L R ra rc V) : len ≤ Rows.uptoBulk x.1 ∧ ∀ i, i < len → (R i).length ≤ Rows.uptoBulk x.1 := by
  rcases open_slice Try.underlying40 h with ⟨hcs, _⟩ | ⟨ad, len', cap', m, n, D, Pl, hcs, _, hl, hm, hmm, hx, heach⟩
  · simp at hcs
    obtain ⟨_, rfl, _⟩ := hcs
    exact ⟨Nat.zero_le _, fun i hi => absurd hi (Nat.not_lt_zero i)⟩
  · simp at hcs
    obtain ⟨rfl, rfl, rfl⟩ := hcs
    simp only [if_true] at hmm
    rw [cellsProd] at heach
    have e : x.1 = .slice ((List.range len).map D) ((List.range (m - len)).map fun j => D (len + j)) := by rw [hx]
    rw [e]
    refine ⟨?_, fun i hi => ?_⟩
    · have := bulk_slice ((List.range len).map D) ((List.range (m - len)).map fun j => D (len + j))
      simp only [List.length_map, List.length_range] at this
      omega
    · obtain ⟨cs', h1, h2⟩ := heach i (by omega)
      obtain ⟨_, hcl, hcell⟩ := World.cells?_some h1
      obtain ⟨xs, k, hk, hxy, _, hxl, hfs⟩ := DataW.trod_struct Try.underlying52 h2
      match xs, hxl, cs', hcl with
      | [y0, y1, y2], _, [v0, v1, v2], _ =>
        have g1 := hfs 1 _ rfl
        simp [cellsInts] at g1
        simp only [Prod.mk.injEq] at hxy
        have c1 := hcell 1 (by omega)
        rcases hP with h0 | ⟨b, off, eb, hps⟩
        · omega
        · simp only [Option.some.injEq] at eb
          subst eb
          rw [Deep.add_add, add_plain] at c1
          have q1 := (hps i hi).2.1
          have c1' : W.cell? ⟨b, off + i * 3 + 1, none⟩ = some v1 := by simpa [Nat.add_assoc] using c1
          rw [q1] at c1'
          simp only [Option.some.injEq] at c1'
          subst c1'
          have k1 := ints_bulk g1
          have k2 : Rows.uptoBulk y1.1 ≤ Rows.uptoBulk (D i) := by rw [hxy.1]; exact bulk_field (by simp)
          have k3 := bulk_elem (d := D i) (elems := (List.range len).map D) (spare := (List.range (m - len)).map fun j => D (len + j)) (List.mem_map.2 ⟨i, by simpa using hi, rfl⟩)
          omega

set_option maxRecDepth 100000 in
theorem gram_bulk {ta na la pa : Option Addr} {tn nn ln n tc nc lc pc : Nat} {st : Int} {d : DataW H} {p : List MemPlace} {L : Nat → Int} {R : Nat → List Int} {ra : Nat → Option Addr} {rc : Nat → Nat} {V : Nat → Int} (h : DataW.Trod enc Try.prog W 0 (fun _ => true) true 42 (.agg #[.slice ta tn tc, .slice na nn nc, .slice la ln lc, .int .i64 st, .slice pa n pc]) d p) (hP : ProdsAt W pa n L R ra rc V) :
    tn ≤ Rows.uptoBulk d ∧ nn ≤ Rows.uptoBulk d ∧ ln ≤ Rows.uptoBulk d ∧ n ≤ Rows.uptoBulk d ∧ ∀ i, i < n → (R i).length ≤ Rows.uptoBulk d := by
  obtain ⟨fuel, hf⟩ := h
  obtain ⟨xs, k, hk, hxy, hcl, hxl, hfs⟩ := DataW.trod_struct Try.underlying42 hf
  simp only [Value.cells] at hfs hcl
  match xs, hxl with
  | [y0, y1, y2, y3, y4], _ =>
    have g0 := hfs 0 _ rfl
    have g1 := hfs 1 _ rfl
    have g2 := hfs 2 _ rfl
    have g4 := hfs 4 _ rfl
    simp [cellsInts, cellsTerms, cellsStrs, cellsProds] at g0 g1 g2 g4
    simp only [Prod.mk.injEq] at hxy
    rw [hxy.1]
    have b0 := terms_bulk g0
    have b1 := strs_bulk g1
    have b2 := ints_bulk g2
    obtain ⟨b4, b5⟩ := prods_bulk g4 hP
    have f0 : Rows.uptoBulk y0.1 ≤ Rows.uptoBulk (.agg ([y0, y1, y2, y3, y4].map (·.1))) := bulk_field (by simp)
    have f1 : Rows.uptoBulk y1.1 ≤ Rows.uptoBulk (.agg ([y0, y1, y2, y3, y4].map (·.1))) := bulk_field (by simp)
    have f2 : Rows.uptoBulk y2.1 ≤ Rows.uptoBulk (.agg ([y0, y1, y2, y3, y4].map (·.1))) := bulk_field (by simp)
    have f4 : Rows.uptoBulk y4.1 ≤ Rows.uptoBulk (.agg ([y0, y1, y2, y3, y4].map (·.1))) := bulk_field (by simp)
    exact ⟨by omega, by omega, by omega, by omega, fun i hi => by have := b5 i hi; omega⟩
end

end Go.Proofs.Ytkbpnafahimeiaa
