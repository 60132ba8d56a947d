/-
  A told grammar, as Valid takes it.
-/
import Derived.Test.YtdlbeffkgdjihaaClosedNo
import Derived.Test.YtdlbeffkgdjihaaGrammarTold
namespace Go.Proofs.Ytdlbeffkgdjihaa
open Go.RowKit Go.Maps Go.Shelf

theorem tmsL_at : ∀ (ts : List (ByteArray × Int)) (k : Nat), k < ts.length → (tmsL ts)[k * 2]? = some (.string (ts.getD k (⟨#[]⟩, 0)).1) ∧ (tmsL ts)[k * 2 + 1]? = some (.int .i64 (ts.getD k (⟨#[]⟩, 0)).2)
  | [], k, hk => by simp at hk
  | t :: ts, 0, _ => by simp [tmsL, tmL]
  | t :: ts, k + 1, hk => by
    have h := tmsL_at ts k (by simpa using hk)
    have e : tmsL (t :: ts) = [Value.string t.1, .int .i64 t.2] ++ tmsL ts := by simp [tmsL, tmL]
    rw [e]
    constructor
    · rw [List.getElem?_append_right (by simp; omega)]
      have e2 : (k + 1) * 2 - [Value.string t.1, .int .i64 t.2].length = k * 2 := by simp; omega
      rw [e2, h.1]; simp
    · rw [List.getElem?_append_right (by simp; omega)]
      have e2 : (k + 1) * 2 + 1 - [Value.string t.1, .int .i64 t.2].length = k * 2 + 1 := by simp; omega
      rw [e2, h.2]; simp

theorem owns_termsAt {w : World} {B n c : Nat} {a : Option Addr} {ts : List (ByteArray × Int)} (h : w.ownsRow B 57 2 (.slice a n c) n (tmsL ts)) (hn : n = ts.length) : TermsAt w a ts ∧ n ≤ c := by
  have h' := h
  rcases h.2 with ⟨hv, h0⟩ | ⟨g, cap, cur, hv, _, _, hle, _⟩
  · exact ⟨.inl (List.eq_nil_of_length_eq_zero (by omega)), by omega⟩
  · simp at hv
    obtain ⟨rfl, rfl⟩ := hv
    refine ⟨.inr ⟨g, 0, rfl, fun i hi => ?_⟩, hle⟩
    obtain ⟨h1, h2⟩ := tmsL_at ts i hi
    rw [Nat.zero_add]
    exact ⟨owns_cell h' h1, owns_cell h' h2⟩

theorem owns_bounds {w : World} {B e s n c : Nat} {a : Option Addr} {xs : List Value} (h : w.ownsRow B e s (.slice a n c) n xs) : n ≤ c ∧ (a = none → n = 0 ∧ c = 0) := by
  rcases h.2 with ⟨hv, h0⟩ | ⟨g, cap, cur, hv, _, _, hle, _⟩
  · simp at hv
    obtain ⟨rfl, rfl, rfl⟩ := hv
    exact ⟨Nat.le_refl _, fun _ => ⟨rfl, rfl⟩⟩
  · simp at hv
    obtain ⟨rfl, rfl⟩ := hv
    exact ⟨hle, fun h => by cases h⟩

theorem GramNew.gat {w : World} {B : Nat} {G : GR} {ta na la pa : Option Addr} {tc nc lc pc : Nat} (h : GramNew w B G (.slice ta G.terms.length tc) (.slice na G.nons.length nc) (.slice la G.levels.length lc) (.slice pa G.prods.length pc))
    (h1 : G.terms.length ≤ 17592186044416) (h2 : G.nons.length ≤ 17592186044416) (h3 : G.levels.length ≤ 17592186044416) (h4 : G.prods.length ≤ 17592186044416) (h5 : ∀ i, i < G.prods.length → (G.prods.getD i ⟨0, [], 0⟩).right.length ≤ 17592186044416) :
    ∃ ra rc, GAt w ta na la pa tc nc lc pc G.terms G.nons G.levels G.prods.length (fun i => (G.prods.getD i ⟨0, [], 0⟩).left) (fun i => (G.prods.getD i ⟨0, [], 0⟩).right) ra rc (fun i => (G.prods.getD i ⟨0, [], 0⟩).level) := by
  obtain ⟨hT, htc⟩ := owns_termsAt h.terms rfl
  obtain ⟨hnc, hnn⟩ := owns_bounds h.nons
  obtain ⟨rg, hp, hr⟩ := h.prods
  obtain ⟨hpc, hpn⟩ := owns_bounds hp
  have hI : ∀ k, ∃ a c, k < G.prods.length → rg k = .slice a (G.prods.getD k ⟨0, [], 0⟩).right.length c ∧ IntsAt w a (G.prods.getD k ⟨0, [], 0⟩).right ∧ (a = none → c = 0) := fun k => by
    by_cases hk : k < G.prods.length
    · have h0 : IntsIn w (rg k) (G.prods.getD k ⟨0, [], 0⟩).right := owns_base (hr k hk)
      obtain ⟨a, c, hv', h6, _, h7⟩ := h0.at
      exact ⟨a, c, fun _ => ⟨hv', h6, fun h => (h7 h).2⟩⟩
    · exact ⟨none, 0, fun h => absurd h hk⟩
  refine ⟨fun k => Classical.choose (hI k), fun k => Classical.choose (Classical.choose_spec (hI k)), hT, StrsIn.strsAt (v := .slice na G.nons.length nc) (owns_base h.nons) rfl, owns_intsAt h.levels rfl, ?_, htc, hnc, hpc, hnn, hpn, h1, h2, h3, h4⟩
  by_cases h0 : G.prods.length = 0
  · exact .inl h0
  · rcases hp.2 with ⟨_, hz⟩ | ⟨g, cap, cur, hv, _⟩
    · exact absurd hz h0
    · simp at hv
      obtain ⟨rfl, rfl⟩ := hv
      refine .inr ⟨g, 0, rfl, fun k hk => ?_⟩
      obtain ⟨e1, e2, e3⟩ := Classical.choose_spec (Classical.choose_spec (hI k)) hk
      have c0 := prodRow_at (fun i => (G.prods.getD i ⟨0, [], 0⟩).left) rg (fun i => (G.prods.getD i ⟨0, [], 0⟩).level) G.prods.length k hk 0 (by omega)
      have c1 := prodRow_at (fun i => (G.prods.getD i ⟨0, [], 0⟩).left) rg (fun i => (G.prods.getD i ⟨0, [], 0⟩).level) G.prods.length k hk 1 (by omega)
      have c2 := prodRow_at (fun i => (G.prods.getD i ⟨0, [], 0⟩).left) rg (fun i => (G.prods.getD i ⟨0, [], 0⟩).level) G.prods.length k hk 2 (by omega)
      rw [e1] at c1
      rw [Nat.zero_add]
      exact ⟨owns_cell hp (by rw [Nat.add_zero] at c0; exact c0), owns_cell hp c1, owns_cell hp c2, e2, e3, h5 k hk⟩

end Go.Proofs.Ytdlbeffkgdjihaa
