/-
  What a table of names does: its size, a name's number, a new name.
-/
import Derived.Test.YtkbpnafahimeiaaBase
import Derived.Laws.Externs
import Derived.MapKept
import Derived.Shelf.SlMaps.Clone
namespace Go.Proofs.Ytkbpnafahimeiaa
open Go.RowKit Go.Maps

theorem strKey : Keyed Try.prog 9 := string_keyed Try.underlying9
theorem zeroInt (w : World) : (zeroValue 3).run Try.prog w = .ok (.int .i64 0) w := by kernel_rfl
theorem infoStr : (Try.prog.info? 9).map (fun i => (i.zero, i.size, i.bytes)) = some (some (.string ByteArray.empty), 1, 16) := by kernel_rfl

theorem size_any (b o n cap : Nat) (a : Option Addr) (w : World) (hc : w.cell? ⟨b, o + 1, none⟩ = some (.slice a n cap)) :
    Calls Try.prog 44 #[.pointer (some ⟨b, o, none⟩)] w fun e w' => e = .returned (.int .i64 n) ∧ w' = w := by
  go_enter Try.func44, Try.ntmps44
  go_wp2
  go_ret
  exact ⟨rfl, rfl⟩

theorem StrsIn.form {w : World} {v : Value} {l : List ByteArray} (h : StrsIn w v l) : ∃ a cap, v = .slice a l.length cap ∧ l.length ≤ cap ∧ (a = none → l.length = 0 ∧ cap = 0) ∧ (∀ g, a = some g → ∀ j u, (l.map Value.string)[j]? = some u → w.cell? (g.add j) = some u) := by
  have h' := h
  rcases h.2 with ⟨rfl, hn⟩ | ⟨g, cap, cur, rfl, _, hg, hle, _⟩
  · rw [hn]
    exact ⟨none, 0, rfl, Nat.le_refl _, fun _ => ⟨rfl, rfl⟩, fun g hg => by cases hg⟩
  · exact ⟨_, cap, rfl, hle, (fun h => by cases h), (fun g' hg' => by cases hg'; exact World.ownsRow.cells h' rfl)⟩
theorem IntsIn.form {w : World} {v : Value} {l : List Int} (h : IntsIn w v l) : ∃ a cap, v = .slice a l.length cap ∧ l.length ≤ cap ∧ (a = none → l.length = 0 ∧ cap = 0) ∧ (∀ g, a = some g → ∀ j u, (l.map (Value.int .i64))[j]? = some u → w.cell? (g.add j) = some u) := by
  have h' := h
  rcases h.2 with ⟨rfl, hn⟩ | ⟨g, cap, cur, rfl, _, hg, hle, _⟩
  · rw [hn]
    exact ⟨none, 0, rfl, Nat.le_refl _, fun _ => ⟨rfl, rfl⟩, fun g hg => by cases hg⟩
  · exact ⟨_, cap, rfl, hle, (fun h => by cases h), (fun g' hg' => by cases hg'; exact World.ownsRow.cells h' rfl)⟩

theorem keyStr (s : ByteArray) (hs : s.size ≤ maxLen) : keyOf Try.prog 9 (.string s) = some (.string s.data.toList) := WideMaps.keyOf_string_mk Try.underlying9 hs

theorem find_any (b o : Nat) (m : Value) (l : List ByteArray) (s : ByteArray) (w : World) (hc : w.cell? ⟨b, o, none⟩ = some m) (hm : MapIs w m l) (hs : s.size ≤ maxLen) :
    Calls Try.prog 80 #[.pointer (some ⟨b, o, none⟩), .string s] w fun e w' => e = .returned (.int .i64 (numOf l s)) ∧ w' = w := by
  have hlk : (Instr.lookup 61 m (.string s) false).run Try.prog w = .ok (.int .i64 (numOf l s)) w := by
    rcases hm with ⟨rfl, rfl⟩ | ⟨B, n, D, rfl, _, ho, hat⟩
    · rw [numOf_nil]
      simpa using Maps.look_nil (w := w) false strKey Try.underlying61 (zeroInt w) (keyStr s hs)
    · obtain ⟨c, hrun, hc', _⟩ := ho.lookup_int strKey Try.underlying61 Try.underlying3 (zeroInt w) (keyStr s hs)
      rw [hat s] at hc'
      rw [hrun]
      simp at hc'
      rw [hc']
  clear hm
  generalize numOf l s = r at *
  go_enter Try.func80, Try.ntmps80
  go_wp2
  go_ret
  exact ⟨rfl, rfl⟩

theorem clone_nil (w : World) : Calls Try.prog 96 #[.map none] w fun e w' => e = .returned (.map none) ∧ w' = w := by
  have hq := fun w => run_eql_map_nil_sl (P := Try.prog) w 61 _ _ none Try.underlying61
  go_enter Try.func96, Try.ntmps96
  go_wp2
  go_ret
  exact ⟨rfl, rfl⟩

set_option maxRecDepth 100000 in
theorem clone_some (B n : Nat) (D : DataW Unit) (w : World) (hown : w.ownsMap Try.prog 9 strR B n D) :
    Calls Try.prog 96 #[.map (some B)] w fun e w' => e = .returned (.map (some w.heap.size)) ∧ w'.ownsMap Try.prog 9 strR w.heap.size n D ∧ w.grownBy w' none := by
  obtain ⟨es, clock, hb, F, hs, hD⟩ := hown
  have hq := fun w => run_eql_map_nil_sl (P := Try.prog) w 61 _ _ (some B) Try.underlying61
  have hfin : (w.alloc (.map es clock)).ownsMap Try.prog 9 strR w.heap.size n D := ⟨es, clock, (MapKept.heap_alloc w _).1, F, hs, hD⟩
  have HF : Hid ((w.alloc (.map es clock)).ownsMap Try.prog 9 strR w.heap.size n D) := hfin
  clear hfin F hs hD
  go_enter Try.func96, Try.ntmps96
  go_wp2
  rw [run_callFunc_extern Try.func101 (by kernel_rfl) (by kernel_rfl) (by kernel_rfl) (e := Extern.MapsClone.clone) (by kernel_rfl), run_maps_clone_sl w 61 hb]
  simp only [Result.andThen]
  rw [Oper.upon_value]
  go_wp2
  rw [run_typeAssert_map_sl _ 61 20 _ _ _ Try.underlying61]
  simp only [Result.andThen]
  rw [Oper.upon_value]
  go_wp2
  go_ret
  exact ⟨rfl, HF.out, World.grownBy_alloc w _ none⟩

theorem clip_str (a : Option Addr) (n cap : Nat) (w : World) (hle : n ≤ cap) (hn : a = none → n = 0 ∧ cap = 0) :
    Calls Try.prog 97 #[.slice a n cap] w fun e w' => e = .returned (.slice a n n) ∧ w' = w := by
  cases a with
  | none =>
    obtain ⟨rfl, rfl⟩ := hn rfl
    clear hn hle
    go_enter Try.func97, Try.ntmps97
    go_wp2
    go_ret
    exact ⟨rfl, rfl⟩
  | some x =>
    clear hn
    go_enter Try.func97, Try.ntmps97
    go_wp2
    go_ret
    exact ⟨rfl, rfl⟩

/-- An append that grows, its new slice written out. -/
theorem wpList_append_new {P : Program} (w : World) {ops : Array Oper} {rest : List Oper} {o : Oper} {a : Act} {Q : Exit → Act → World → Prop}
    (hg : o.guard = none) (s x : Operand) (t : TypeId) (hop : o.op = Op.call { callee := Callee.builtin Builtin.append, args := #[s, x], argTypes := #[t, t] })
    (e : TypeId) (i : TypeInfo) (z : Value) (size bytes : Nat) (h1 : P.underlying t = some (.slice e)) (h2 : P.info? e = some i) (h3 : i.zero = some z) (h4 : i.size = size) (h5 : i.bytes = bytes) (h6 : z.cells.size = size) (h7 : 0 < size)
    (ao : Option Addr) (n cap : Nat) (olds : List Value) (hs : a.eval s = .slice ao n cap) (hnone : ao = none → n = 0 ∧ cap = 0) (hlo : olds.length = n * size) (holds : ∀ b, ao = some b → ∀ j u, olds[j]? = some u → w.cell? (b.add j) = some u)
    (ad : Addr) (m c : Nat) (news : List Value) (hx : a.eval x = .slice (some ad) m c) (hn : news.length = m * size) (hc : ∀ j u, news[j]? = some u → w.cell? (ad.add j) = some u) (h1c : ∀ u ∈ news, u.oneCell' = true)
    (hfull : cap < n + m) (b1 : n + m ≤ maxLen) (b2 : (n + m) * bytes ≤ 140737488355328)
    (hK : ∀ g c' w', w'.ownsRow w.heap.size e size (.slice (some ⟨g, 0, none⟩) (n + m) c') (n + m) (olds ++ news) → w.grownBy w' none → wpList P ops Q rest (a.put o.dst (.slice (some ⟨g, 0, none⟩) (n + m) c')) w') :
    wpList P ops Q (o :: rest) a w := by
  by_cases hm : n + m = 0
  · omega
  · refine wpList_append_grows w hg s x t hop e i z size bytes h1 h2 h3 h4 h5 h6 h7 ao n cap olds hs hnone hlo holds ad m c news hx hn hc h1c hfull b1 b2 ?_
    intro v' w' hown hgr
    have hex : ∃ g c', v' = .slice (some ⟨g, 0, none⟩) (n + m) c' := by
      rcases hown.2 with ⟨_, h0⟩ | ⟨g, c', _, hv, _⟩
      · exact absurd h0 hm
      · exact ⟨g, c', hv⟩
    obtain ⟨g, c', hv⟩ := hex
    rw [hv] at hown ⊢
    exact hK g c' w' hown hgr

theorem owns_base {w : World} {base e size n : Nat} {v : Value} {xs : List Value} (h : w.ownsRow base e size v n xs) : w.ownsRow 0 e size v n xs := by
  refine ⟨h.1, ?_⟩
  rcases h.2 with h' | ⟨g, cap, cur, hv, _, rest⟩
  · exact .inl h'
  · exact .inr ⟨g, cap, cur, hv, Nat.zero_le _, rest⟩

theorem MapIs.put {w : World} {l : List ByteArray} {B n : Nat} {D : DataW Unit} {s : ByteArray} (ho : w.ownsMap Try.prog 9 strR B (n + 1) (D.put (.string s.data.toList) (.lit (.int .i64 ((l.length + 1 : Nat) : Int))))) (hn : n ≤ l.length) (hs : s ∉ l) (hD : IsMap D)
    (hat : ∀ s : ByteArray, D.atKey (.string s.data.toList) (.lit (.int .i64 0)) = .lit (.int .i64 (numOf l s))) : MapIs w (.map (some B)) (l ++ [s]) := by
  refine .inr ⟨B, n + 1, _, rfl, by simp; omega, ho, fun s' => ?_⟩
  by_cases e : s' = s
  · subst e
    rw [atKey_put_same hD (by simp [WideAt.IsKeyLit]), numOf_snoc_same hs]
  · rw [atKey_put_other (fun h => e (bytes_ext (by simpa using h))), hat s', numOf_snoc_other e]

end Go.Proofs.Ytkbpnafahimeiaa
