/-
  A told grammar, as Valid takes it.
-/
import Derived.Test.YtkbpnafahimeiaaValidWalk
import Derived.Test.YtkbpnafahimeiaaGrammarTold
namespace Go.Proofs.Ytkbpnafahimeiaa
open Go.RowKit Go.Maps Go.Shelf

attribute [local go_sem] Oper.semAt_some

set_option maxRecDepth 100000 in
set_option maxHeartbeats 400000 in
theorem hasAdded_no (b off : Nat) (ta la pa : Option Addr) (tn nn ln pn tc nc lc pc : Nat) (st : Int) (s : ByteArray) (w : World) (hc : w.cell? ⟨b, off, none⟩ = some (.string s)) (h0 : 0 < nn) (hs : 0 < s.size) :
    Calls Try.prog 31 #[.agg #[.slice ta tn tc, .slice (some ⟨b, off, none⟩) nn nc, .slice la ln lc, .int .i64 st, .slice pa pn pc]] w fun e w' => e = .returned (.bool false) ∧ w.grownBy w' none := by
  have hc' : ∀ o, (w.alloc o).cell? ⟨b, off, none⟩ = some (.string s) := fun o => (World.grownBy_alloc w o none).cell hc (by simp)
  have hc2 : ∀ o, (w.alloc o).drew.cell? ⟨b, off, none⟩ = some (.string s) := fun o => hc' o
  have hd : decide (0 < (nn : Int)) = true := decide_eq_true (by omega)
  have hd' : decide (0 < nn) = true := decide_eq_true h0
  have hne : (s.toList == (ByteArray.mk #[]).toList) = false := by
    rw [Bool.eq_false_iff]
    intro h
    have := (toList_empty s).1 (by simpa using h)
    rw [this] at hs
    simp [ByteArray.size] at hs
  have hne2 : s.toList.isEmpty = false := by
    cases h : s.toList with
    | nil =>
      rw [ByteArray.toList_eq] at h
      have : s.size = 0 := by show s.data.size = 0; rw [← Array.length_toList, h]; rfl
      omega
    | cons x r => rfl
  clear hc hs
  go_enter Try.func31, Try.ntmps31
  go_wp2_with fail
  go_quiet (fail)
  go_wp2
  go_ret
  exact ⟨by first | rfl | simp, grown_trans (World.grownBy_alloc _ _ none) (grown_drewN _ _)⟩

theorem closed_no (b off : Nat) (ta la pa : Option Addr) (tn nn ln pn tc nc lc pc : Nat) (st : Int) (s : ByteArray) (w : World) (hc : w.cell? ⟨b, off, none⟩ = some (.string s)) (h0 : 0 < nn) (hs : 0 < s.size) :
    Calls Try.prog 12 #[.agg #[.slice ta tn tc, .slice (some ⟨b, off, none⟩) nn nc, .slice la ln lc, .int .i64 st, .slice pa pn pc]] w fun e w' => e = .returned (.bool false) ∧ w.grownBy w' none := by
  have HA : Hid (∀ o, Calls Try.prog 31 #[.agg #[.slice ta tn tc, .slice (some ⟨b, off, none⟩) nn nc, .slice la ln lc, .int .i64 st, .slice pa pn pc]] (w.alloc o) fun e w' => e = .returned (.bool false) ∧ (w.alloc o).grownBy w' none) := fun o => hasAdded_no b off ta la pa tn nn ln pn tc nc lc pc st s (w.alloc o) ((World.grownBy_alloc w o none).cell hc (by simp)) h0 hs
  clear hc h0 hs
  go_enter Try.func12, Try.ntmps12
  go_wp2_with fail
  refine (HA.out _).mono ?_
  rintro e w2 ⟨rfl, hg2⟩
  have HG2 : Hid (w.grownBy w2 none) := grown_trans (World.grownBy_alloc _ _ none) hg2
  clear hg2
  go_wp2_with fail
  go_ret
  exact ⟨rfl, HG2.out⟩

end Go.Proofs.Ytkbpnafahimeiaa

namespace Go.Proofs.Ytkbpnafahimeiaa
open Go.RowKit Go.Maps Go.Shelf

theorem tmsL_at : ∀ (ts : List (ByteArray × Int)) (k : Nat), k < ts.length → (tmsL ts)[k * 2]? = some (.string (ts.getD k (⟨#[]⟩, 0)).1) ∧ (tmsL ts)[k * 2 + 1]? = some (.int .i64 (ts.getD k (⟨#[]⟩, 0)).2)
  | [], k, hk => by simp at hk
  | t :: ts, 0, _ => by simp [tmsL, tmL]
  | t :: ts, k + 1, hk => by
    have h := tmsL_at ts k (by simpa using hk)
    have e : tmsL (t :: ts) = [Value.string t.1, .int .i64 t.2] ++ tmsL ts := by simp [tmsL, tmL]
    rw [e]
    constructor
    · rw [List.getElem?_append_right (by simp; omega)]
      have e2 : (k + 1) * 2 - [Value.string t.1, .int .i64 t.2].length = k * 2 := by simp; omega
      rw [e2, h.1]; simp
    · rw [List.getElem?_append_right (by simp; omega)]
      have e2 : (k + 1) * 2 + 1 - [Value.string t.1, .int .i64 t.2].length = k * 2 + 1 := by simp; omega
      rw [e2, h.2]; simp

theorem owns_termsAt {w : World} {B n c : Nat} {a : Option Addr} {ts : List (ByteArray × Int)} (h : w.ownsRow B 74 2 (.slice a n c) n (tmsL ts)) (hn : n = ts.length) : TermsAt w a ts ∧ n ≤ c := by
  have h' := h
  rcases h.2 with ⟨hv, h0⟩ | ⟨g, cap, cur, hv, _, _, hle, _⟩
  · exact ⟨.inl (List.eq_nil_of_length_eq_zero (by omega)), by omega⟩
  · simp at hv
    obtain ⟨rfl, rfl⟩ := hv
    refine ⟨.inr ⟨g, 0, rfl, fun i hi => ?_⟩, hle⟩
    obtain ⟨h1, h2⟩ := tmsL_at ts i hi
    rw [Nat.zero_add]
    exact ⟨owns_cell h' h1, owns_cell h' h2⟩

theorem owns_bounds {w : World} {B e s n c : Nat} {a : Option Addr} {xs : List Value} (h : w.ownsRow B e s (.slice a n c) n xs) : n ≤ c ∧ (a = none → n = 0 ∧ c = 0) := by
  rcases h.2 with ⟨hv, h0⟩ | ⟨g, cap, cur, hv, _, _, hle, _⟩
  · simp at hv
    obtain ⟨rfl, rfl, rfl⟩ := hv
    exact ⟨Nat.le_refl _, fun _ => ⟨rfl, rfl⟩⟩
  · simp at hv
    obtain ⟨rfl, rfl⟩ := hv
    exact ⟨hle, fun h => by cases h⟩

theorem GramNew.gat {w : World} {B : Nat} {G : GR} {ta na la pa : Option Addr} {tc nc lc pc : Nat} (h : GramNew w B G (.slice ta G.terms.length tc) (.slice na G.nons.length nc) (.slice la G.levels.length lc) (.slice pa G.prods.length pc))
    (h1 : G.terms.length ≤ 17592186044416) (h2 : G.nons.length ≤ 17592186044416) (h3 : G.levels.length ≤ 17592186044416) (h4 : G.prods.length ≤ 17592186044416) (h5 : ∀ i, i < G.prods.length → (G.prods.getD i ⟨0, [], 0⟩).right.length ≤ 17592186044416) :
    ∃ ra rc, GAt w ta na la pa tc nc lc pc G.terms G.nons G.levels G.prods.length (fun i => (G.prods.getD i ⟨0, [], 0⟩).left) (fun i => (G.prods.getD i ⟨0, [], 0⟩).right) ra rc (fun i => (G.prods.getD i ⟨0, [], 0⟩).level) := by
  obtain ⟨hT, htc⟩ := owns_termsAt h.terms rfl
  obtain ⟨hnc, hnn⟩ := owns_bounds h.nons
  obtain ⟨rg, hp, hr⟩ := h.prods
  obtain ⟨hpc, hpn⟩ := owns_bounds hp
  have hI : ∀ k, ∃ a c, k < G.prods.length → rg k = .slice a (G.prods.getD k ⟨0, [], 0⟩).right.length c ∧ IntsAt w a (G.prods.getD k ⟨0, [], 0⟩).right ∧ (a = none → c = 0) := fun k => by
    by_cases hk : k < G.prods.length
    · have h0 : IntsIn w (rg k) (G.prods.getD k ⟨0, [], 0⟩).right := owns_base (hr k hk)
      obtain ⟨a, c, hv', h6, _, h7⟩ := h0.at
      exact ⟨a, c, fun _ => ⟨hv', h6, fun h => (h7 h).2⟩⟩
    · exact ⟨none, 0, fun h => absurd h hk⟩
  refine ⟨fun k => Classical.choose (hI k), fun k => Classical.choose (Classical.choose_spec (hI k)), hT, StrsIn.strsAt (v := .slice na G.nons.length nc) (owns_base h.nons) rfl, owns_intsAt h.levels rfl, ?_, htc, hnc, hpc, hnn, hpn, h1, h2, h3, h4⟩
  by_cases h0 : G.prods.length = 0
  · exact .inl h0
  · rcases hp.2 with ⟨_, hz⟩ | ⟨g, cap, cur, hv, _⟩
    · exact absurd hz h0
    · simp at hv
      obtain ⟨rfl, rfl⟩ := hv
      refine .inr ⟨g, 0, rfl, fun k hk => ?_⟩
      obtain ⟨e1, e2, e3⟩ := Classical.choose_spec (Classical.choose_spec (hI k)) hk
      have c0 := prodRow_at (fun i => (G.prods.getD i ⟨0, [], 0⟩).left) rg (fun i => (G.prods.getD i ⟨0, [], 0⟩).level) G.prods.length k hk 0 (by omega)
      have c1 := prodRow_at (fun i => (G.prods.getD i ⟨0, [], 0⟩).left) rg (fun i => (G.prods.getD i ⟨0, [], 0⟩).level) G.prods.length k hk 1 (by omega)
      have c2 := prodRow_at (fun i => (G.prods.getD i ⟨0, [], 0⟩).left) rg (fun i => (G.prods.getD i ⟨0, [], 0⟩).level) G.prods.length k hk 2 (by omega)
      rw [e1] at c1
      rw [Nat.zero_add]
      exact ⟨owns_cell hp (by rw [Nat.add_zero] at c0; exact c0), owns_cell hp c1, owns_cell hp c2, e2, e3, h5 k hk⟩

end Go.Proofs.Ytkbpnafahimeiaa
