/-
  lr0: an automaton that is spoilt, in memory.
-/
import Derived.Test.YtjijagnpcmonbaaDoorQkddklddcacnj
import Derived.Test.YtjijagnpcmonbaaDoorQlcmcachabgbb
namespace Go.Proofs.YtjijagnpcmonbaaDoor.J
open Go.RowKit Go.Maps Go.Shelf

/-- A row of one's own, whatever it holds. -/
def Like2 (X : World) (B e : Nat) (v : Value) (n : Nat) : Prop := ∃ xs, X.ownsRow B e 2 v n xs
/-- Each block of cells stays one of its type and size. -/
def Sizes (X Y : World) : Prop := ∀ (b : Nat) (cs : Array Value) (e : TypeId), X.heap[b]? = some (.cells cs e (0, 0)) → ∃ cs', Y.heap[b]? = some (.cells cs' e (0, 0)) ∧ cs'.size = cs.size
theorem Sizes.ofG {X Y : World} (h : X.grownBy Y none) : Sizes X Y := fun _ cs _ hb => ⟨cs, box_kept hb h, rfl⟩
theorem Sizes.trans {X Y Z : World} (h : Sizes X Y) (k : Sizes Y Z) : Sizes X Z := fun b cs e hb => by
  obtain ⟨cs1, h1, h2⟩ := h b cs e hb
  obtain ⟨cs2, h3, h4⟩ := k b cs1 e h1
  exact ⟨cs2, h3, h4.trans h2⟩
theorem Sizes.set (X : World) (g o : Nat) (u : Value) : Sizes X (X.setCell ⟨g, o, none⟩ u) := fun b cs e hb => by
  by_cases h : b = g
  · subst h
    exact ⟨_, heap_setCell_same _ _ _ _ _ _ hb, Array.size_setIfInBounds⟩
  · have hg : X.grownBy (X.setCell ⟨g, o, none⟩ u) (some g) := grown_setCell _ _ _
    exact ⟨cs, (hg.block b (Array.getElem?_eq_some_iff.1 hb).1 (by simpa using h)).trans hb, rfl⟩
theorem Like2.sized {X Y : World} {B e n : Nat} {v : Value} (h : Like2 X B e v n) (hs : Sizes X Y) : Like2 Y B e v n := by
  obtain ⟨xs, h1, h2⟩ := h
  rcases h2 with ⟨rfl, rfl⟩ | ⟨g, cap, cur, rfl, hB, hh, h3, h4, h5, h6⟩
  · exact ⟨xs, h1, .inl ⟨rfl, rfl⟩⟩
  · obtain ⟨cur', h7, h8⟩ := hs g cur e hh
    refine ⟨cur'.toList.take (n * 2), ?_, .inr ⟨g, cap, cur', rfl, hB, h7, h3, h4, by rw [h8]; exact h5, rfl⟩⟩
    have h9 : n * 2 ≤ cap * 2 := Nat.mul_le_mul_right _ h3
    rw [List.length_take, Array.length_toList, h8, h5]
    omega
theorem Like2.at {X : World} {B e n i : Nat} {v : Value} (h : Like2 X B e v n) (hi : i < n) : ∃ g c u0 u1 cur, v = .slice (some ⟨g, 0, none⟩) n c ∧ B ≤ g ∧ X.cell? ⟨g, i * 2, none⟩ = some u0 ∧ X.cell? ⟨g, i * 2 + 1, none⟩ = some u1 ∧ (∀ o, X.frozen? ⟨g, o, none⟩ = false) ∧ X.heap[g]? = some (.cells cur e (0, 0)) := by
  obtain ⟨xs, h1, h2⟩ := h
  rcases h2 with ⟨rfl, rfl⟩ | ⟨g, cap, cur, rfl, hB, hh, h3, h4, h5, h6⟩
  · omega
  · refine ⟨g, cap, cur[i * 2]'(by omega), cur[i * 2 + 1]'(by omega), cur, rfl, hB, ?_, ?_, fun o => frozen_of_row _ _ _ _ _ hh, hh⟩
    · rw [cell_of_row _ _ _ _ _ _ hh, Array.getElem?_eq_getElem]
    · rw [cell_of_row _ _ _ _ _ _ hh, Array.getElem?_eq_getElem]
theorem Like2.cut {X : World} {B e n : Nat} {v : Value} (h : Like2 X B e v n) : ∃ a c, v = .slice a n c := by
  obtain ⟨xs, h1⟩ := h
  exact owns_cut h1

section
variable {P : Program} (w : World)
theorem run_append_like (t ty : TypeId) (base : Nat) (e : TypeId) (i : TypeInfo) (z : Value) (size bytes : Nat) (ht : P.underlying t = some (.slice e)) (hi : P.info? e = some i) (hz : i.zero = some z)
    (hsize : i.size = size) (hby : i.bytes = bytes) (hzs : z.cells.size = size) (hsz : 0 < size)
    (v : Value) (n : Nat) (xs : List Value) (hown : w.ownsRow base e size v n xs)
    (ad : Addr) (m c : Nat) (news : List Value) (hl : news.length = m * size) (hnews : ∀ j u, news[j]? = some u → w.cell? (ad.add j) = some u) (h1 : ∀ u ∈ news, u.oneCell' = true)
    (h63 : n + m ≤ maxLen) (hbytes : ((n + m) + (n + m) / 4 + 192) * bytes ≤ 281474976710656) (hbase : base ≤ w.heap.size) :
    ∃ a' c' w', (Builtin.append_ #[t, t] ty #[v, .slice (some ad) m c]).run P w = .ok (.slice a' (n + m) c') w' ∧ w.grownBy w' v.ownBlock ∧ Sizes w w' := by
  obtain ⟨v', w', hr, h2, h3, _⟩ := run_append_own_wide (P := P) w base t ty e i z size bytes ht hi hz hsize hby hzs hsz v n xs hown ad m c news hl hnews h1 h63 hbytes hbase
  obtain ⟨a', c', rfl⟩ := owns_cut h2
  refine ⟨a', c', w', hr, h3, ?_⟩
  subst hsize
  subst hby
  rcases hown.2 with ⟨rfl, rfl⟩ | ⟨g', cap', cur, rfl, hbg, hg, hnc, hcm, hcs, htake⟩
  · exact Sizes.ofG h3
  · by_cases hroom : n + m ≤ cap'
    · have hfit : n * i.size + news.length ≤ cur.size := by rw [hl, hcs, ← Nat.add_mul]; exact Nat.mul_le_mul_right _ hroom
      have hr2 := run_append_room (P := P) w t ty e i ht hi g' n cap' cur hg ad m c news hl hnews h1 hroom hfit
      rw [hr] at hr2
      simp only [Result.ok.injEq] at hr2
      obtain ⟨_, rfl⟩ := hr2
      intro b cs e2 hb
      by_cases eb : b = g'
      · subst eb
        rw [hg] at hb
        simp only [Option.some.injEq, Obj.cells.injEq] at hb
        obtain ⟨rfl, rfl, _⟩ := hb
        refine ⟨_, setRow_heap w b cur _ _ _ hg, ?_⟩
        simp only [List.size_toArray, List.length_append, List.length_take, List.length_drop, Array.length_toList]
        omega
      · refine ⟨cs, (h3.block b (Array.getElem?_eq_some_iff.1 hb).1 ?_).trans hb, rfl⟩
        simpa [Value.ownBlock] using eb
    · have holds : ∀ j u, xs[j]? = some u → w.cell? ((⟨g', 0, none⟩ : Addr).add j) = some u := hown.cells (g := g') rfl
      have hr2 := run_append_grow (P := P) w t ty e i z ht hi hz ⟨g', 0, none⟩ n cap' xs hown.1 holds ad m c news hl hnews (by omega) (by simp only [maxLen] at h63; omega) (growslice_fits_wide (by omega) hbytes)
      rw [hr] at hr2
      simp only [Result.ok.injEq] at hr2
      obtain ⟨_, rfl⟩ := hr2
      exact Sizes.ofG ⟨rfl, rfl, rfl, by simp, fun k hk _ => Go.heap_alloc_old w.drew _ hk⟩

end

theorem spoil_other {X Y : World} {b r : Nat} {cs cs' : Array Value} {t t' : TypeId} (h : X.heap[b]? = some (.cells cs t (0, 0))) (hr : X.heap[r]? = some (.cells cs' t' (0, 0))) (ht : t ≠ t') (hg : X.grownBy Y (some r)) : Y.heap[b]? = some (.cells cs t (0, 0)) := by
  refine (hg.block b (Array.getElem?_eq_some_iff.1 h).1 ?_).trans h
  intro e
  have e2 : b = r := by simpa using e
  subst e2
  rw [h] at hr
  simp only [Option.some.injEq, Obj.cells.injEq] at hr
  exact ht hr.2.1
section
variable {w0 X Y : World} {ab : Nat} {bc : Array Value} {B sb N ik ie : Nat} {kv ev : Nat → Value} {kn en : Nat → Nat} {cur : Array Value}
end

end Go.Proofs.YtjijagnpcmonbaaDoor.J
